import Derived.Test.YtfphjgmkpgoomaaCW3
import Derived.Test.YtfphjgmkpgoomaaProg
import Derived.KernelRfl
set_option maxRecDepth 100000
namespace Go.Proofs.Ytfphjgmkpgoomaa
open Vw Go
instance globs : Inhabited GlobT := ⟨⟨[]⟩⟩
attribute [push_cast] Bool.false_eq_true List.length_replicate
attribute [bitvec_to_nat] decide_eq_true_eq decide_eq_false_iff_not Bool.not_eq_true' Bool.not_eq_false' Bool.and_eq_true Bool.or_eq_true Bool.and_eq_false_iff Bool.or_eq_false_iff Int.not_le Int.not_lt bne_iff_ne ne_eq beq_iff_eq Bool.not_eq_true Bool.not_eq_false
theorem sd {P : Prop} (h : P := by first | assumption | rfl | omega | (simp <;> omega) | (simp_all <;> omega)) : P := h
def l3r0 : List AOper :=
  [.mk (some 2) (.mv (.const (.bool false))) none []]
def l3r1 : List AOper :=
  [.mk (some 11) (.mv (.tmp 0)) none [],.mk (some 12) (.len (.tmp 11)) none [0],.mk (some 13) (.bin .gtr (.tmp 12) (.const (.int .i64 1048576))) none [1]]
def l3r2 : List AOper :=
  [.mk (some 2) (.mv (.const (.bool true))) none []]
def l3r3 : List AOper :=
  [.mk (some 15) (.mv (.tmp 0)) none [],.mk (some 16) (.call 7 [.tmp 15]) none [0],.mk (some 14) (.mv (.tmp 16)) none [1],.mk (some 17) (.extract (.tmp 14) 0) none [2],.mk (some 18) (.extract (.tmp 14) 1) none [2],.mk (some 3) (.alloc [.int .i64 0,.slice none 0 0,.slice none 0 0]) none [],.mk none (.store 3 (.tmp 3) (.tmp 17)) none [5,3,1,0,1,2,3,5],.mk (some 4) (.mv (.tmp 18)) none [4,6,0,1,2,3,4,5,6]]
def l3r4 : List AOper :=
  [.mk (some 20) (.load true 3 (.tmp 3)) none [],.mk (some 21) (.mv (.tmp 4)) none [],.mk (some 22) (.call 8 [.tmp 20,.tmp 21]) none [0,1],.mk (some 19) (.mv (.tmp 22)) none [2],.mk (some 23) (.extract (.tmp 19) 0) none [3],.mk (some 24) (.extract (.tmp 19) 1) none [3],.mk (some 5) (.alloc [.int .i64 0,.slice none 0 0,.slice none 0 0]) none [],.mk none (.store 3 (.tmp 5) (.tmp 23)) none [6,4,2,0,1,2,3,4,6],.mk (some 6) (.mv (.tmp 24)) none [5,7,0,1,2,3,4,5,6,7]]
def l3r5 : List AOper :=
  [.mk (some 26) (.load true 3 (.tmp 3)) none [],.mk (some 27) (.mv (.tmp 4)) none [],.mk (some 28) (.call 9 [.tmp 26,.tmp 27]) none [0,1],.mk (some 25) (.mv (.tmp 28)) none [2],.mk (some 29) (.extract (.tmp 25) 0) none [3],.mk (some 30) (.extract (.tmp 25) 1) none [3],.mk (some 7) (.alloc [.int .i64 0,.slice none 0 0,.slice none 0 0]) none [],.mk none (.store 3 (.tmp 7) (.tmp 29)) none [6,4,2,0,1,2,3,4,6],.mk (some 8) (.mv (.tmp 30)) none [5,7,0,1,2,3,4,5,6,7]]
def l3r6 : List AOper :=
  [.mk (some 31) (.load true 3 (.tmp 5)) none [],.mk (some 32) (.load true 3 (.tmp 7)) none [],.mk (some 33) (.call 10 [.tmp 31,.tmp 32]) none [0,1],.mk (some 34) (.un .not (.tmp 33)) none [2],.mk (some 35) (.mv (.tmp 34)) none [3,2],.mk (some 36) (.mv (.tmp 6)) (some (35,false)) [4],.mk (some 37) (.mv (.tmp 8)) (some (35,false)) [4],.mk (some 38) (.binB .neq (.tmp 36) (.tmp 37)) (some (35,false)) [5,6,4],.mk (some 39) (.pick (.tmp 35) (.const (.bool true)) (.tmp 38)) none [4,7],.mk (some 40) (.mv (.tmp 39)) none [8,4],.mk (some 41) (.mv (.tmp 6)) (some (40,false)) [9],.mk (some 42) (.un .not (.tmp 41)) (some (40,false)) [10,9],.mk (some 43) (.pick (.tmp 40) (.const (.bool true)) (.tmp 42)) none [9,11]]
def l3r7 : List AOper :=
  [.mk (some 44) (.load true 3 (.tmp 5)) none [],.mk (some 45) (.load true 3 (.tmp 7)) none [],.mk (some 46) (.call 10 [.tmp 44,.tmp 45]) none [0,1],.mk (some 47) (.mv (.tmp 46)) none [2,2],.mk (some 48) (.mv (.tmp 6)) (some (47,true)) [3],.mk (some 49) (.mv (.tmp 8)) (some (47,true)) [3],.mk (some 50) (.binB .eql (.tmp 48) (.tmp 49)) (some (47,true)) [4,5,3],.mk (some 51) (.pick (.tmp 47) (.tmp 50) (.const (.bool false))) none [3,6],.mk (some 2) (.mv (.tmp 51)) none [7,3,0,1,2,3,4,5,6,7]]
def l3r8 : List AOper :=
  [.mk (some 53) (.load true 3 (.tmp 5)) none [],.mk (some 54) (.mv (.tmp 4)) none [],.mk (some 55) (.call 8 [.tmp 53,.tmp 54]) none [0,1],.mk (some 52) (.mv (.tmp 55)) none [2],.mk (some 56) (.extract (.tmp 52) 0) none [3],.mk (some 57) (.extract (.tmp 52) 1) none [3],.mk (some 9) (.alloc [.int .i64 0,.slice none 0 0,.slice none 0 0]) none [],.mk none (.store 3 (.tmp 9) (.tmp 56)) none [6,4,2,0,1,2,3,4,6],.mk (some 10) (.mv (.tmp 57)) none [5,7,0,1,2,3,4,5,6,7]]
def l3r9a : List AOper :=
  [.mk (some 58) (.mv (.tmp 10)) none [],.mk (some 59) (.mv (.tmp 58)) none [0],.mk (some 60) (.load true 3 (.tmp 9)) (some (59,true)) [1],.mk (some 61) (.load true 3 (.tmp 3)) (some (59,true)) [1],.mk (some 62) (.call 11 [.tmp 60,.tmp 61]) (some (59,true)) [2,3,1,1],.mk (some 63) (.pick (.tmp 59) (.tmp 62) (.const (.bool false))) none [1,4],.mk (some 64) (.mv (.tmp 63)) none [5,4],.mk (some 65) (.load true 3 (.tmp 5)) (some (64,true)) [6],.mk (some 66) (.call 13 [.tmp 65]) (some (64,true)) [7,6,6],.mk (some 67) (.load true 3 (.tmp 3)) (some (64,true)) [6],.mk (some 68) (.call 13 [.tmp 67]) (some (64,true)) [9,8,6],.mk (some 69) (.call 12 [.tmp 66,.tmp 68]) (some (64,true)) [8,10,10,6],.mk (some 70) (.pick (.tmp 64) (.tmp 69) (.const (.bool false))) none [6,11],.mk (some 71) (.mv (.tmp 70)) none [12,11],.mk (some 72) (.fld 1 (.tmp 5)) (some (71,true)) [13],.mk (some 73) (.load false 1 (.tmp 72)) (some (71,true)) [14,13],.mk (some 74) (.fld 1 (.tmp 3)) (some (71,true)) [13],.mk (some 75) (.load false 1 (.tmp 74)) (some (71,true)) [16,13]]
def l3r9b : List AOper :=
  [.mk (some 76) (.call 12 [.tmp 73,.tmp 75]) (some (71,true)) [15,17,13,13],.mk (some 77) (.pick (.tmp 71) (.tmp 76) (.const (.bool false))) none [13,18],.mk (some 2) (.mv (.tmp 77)) none [19,18,0,1,2,3,4,5,6,7,8,9,10,11,12,13,14,15,16,17,18,19]]
def l3r9 : List AOper := l3r9a ++ l3r9b
def l3 : AFn :=
  (AFn.mk 78 1 (.seq (.reg l3r0) (.seq (.seq (.reg l3r1) (.cond (.tmp 13) (.seq (.reg l3r2) .ret) .skip)) (.seq (.reg l3r3) (.seq (.reg l3r4) (.seq (.reg l3r5) (.seq (.seq (.reg l3r6) (.cond (.tmp 43) (.seq (.reg l3r7) .ret) .skip)) (.seq (.reg l3r8) (.seq (.draw l3r9) .ret)))))))) [.tmp 2])
theorem l3_eq : lowFn Try.prog 3 = some l3 := by kernel_rfl
def l7r0 : List AOper :=
  [.mk (some 2) (.alloc [.int .i64 0,.slice none 0 0,.slice none 0 0]) none [],.mk (some 3) (.mv (.const (.int .i64 0))) none []]
def l7r1 : List AOper :=
  [.mk (some 4) (.mv (.tmp 0)) none [],.mk (some 5) (.call 25 [.tmp 4]) none [0],.mk (some 6) (.call 24 [.tmp 5]) none [1,1],.mk (some 7) (.extract (.tmp 6) 0) none [2],.mk (some 8) (.extract (.tmp 6) 1) none [2],.mk none (.store 3 (.tmp 2) (.tmp 7)) none [3,2,0,1,2,3,4],.mk (some 3) (.mv (.tmp 8)) none [4,5,0,1,2,3,4,5]]
def l7 : AFn :=
  (AFn.mk 9 1 (.seq (.reg l7r0) (.seq (.reg l7r1) .ret)) [.cell 2 true 3,.tmp 3])
theorem l7_eq : lowFn Try.prog 7 = some l7 := by kernel_rfl
def l8r0 : List AOper :=
  [.mk (some 2) (.box (.tmp 0)) none [],.mk (some 4) (.alloc [.int .i64 0,.slice none 0 0,.slice none 0 0]) none [],.mk (some 5) (.mv (.const (.bool false))) none []]
def l8r1 : List AOper :=
  [.mk (some 6) (.load true 3 (.tmp 2)) none [],.mk (some 7) (.mv (.tmp 1)) none [],.mk (some 8) (.build [.int .i64 0,.int .i64 0,.int .i64 0,.bool false,.bool false] [(2,1,.const (.int .i64 (-1)))]) none [],.mk (some 9) (.call 26 [.tmp 6,.tmp 7,.tmp 8]) none [0,1,2],.mk (some 10) (.extract (.tmp 9) 0) none [3],.mk (some 11) (.extract (.tmp 9) 1) none [3],.mk none (.store 3 (.tmp 4) (.tmp 10)) none [4,3,0,1,2,3,4,5],.mk (some 5) (.mv (.tmp 11)) none [5,6,0,1,2,3,4,5,6]]
def l8 : AFn :=
  (AFn.mk 12 2 (.seq (.reg l8r0) (.seq (.reg l8r1) .ret)) [.cell 4 true 3,.tmp 5])
theorem l8_eq : lowFn Try.prog 8 = some l8 := by kernel_rfl
def l9r0 : List AOper :=
  [.mk (some 2) (.box (.tmp 0)) none [],.mk (some 4) (.alloc [.int .i64 0,.slice none 0 0,.slice none 0 0]) none [],.mk (some 5) (.mv (.const (.bool false))) none []]
def l9r1 : List AOper :=
  [.mk (some 6) (.load true 3 (.tmp 2)) none [],.mk (some 7) (.mv (.tmp 1)) none [],.mk (some 8) (.build [.int .i64 0,.int .i64 0,.int .i64 0,.bool false,.bool false] [(2,1,.const (.int .i64 (-1)))]) none [],.mk (some 9) (.call 27 [.tmp 6,.tmp 7,.tmp 8]) none [0,1,2],.mk (some 10) (.extract (.tmp 9) 0) none [3],.mk (some 11) (.extract (.tmp 9) 1) none [3],.mk none (.store 3 (.tmp 4) (.tmp 10)) none [4,3,0,1,2,3,4,5],.mk (some 5) (.mv (.tmp 11)) none [5,6,0,1,2,3,4,5,6]]
def l9 : AFn :=
  (AFn.mk 12 2 (.seq (.reg l9r0) (.seq (.reg l9r1) .ret)) [.cell 4 true 3,.tmp 5])
theorem l9_eq : lowFn Try.prog 9 = some l9 := by kernel_rfl
def l10r0 : List AOper :=
  [.mk (some 2) (.box (.tmp 0)) none [],.mk (some 3) (.box (.tmp 1)) none [],.mk (some 4) (.mv (.const (.bool false))) none []]
def l10r1 : List AOper :=
  [.mk (some 5) (.fld 0 (.tmp 2)) none [],.mk (some 6) (.load false 1 (.tmp 5)) none [0],.mk (some 7) (.fld 0 (.tmp 3)) none [],.mk (some 8) (.load false 1 (.tmp 7)) none [2],.mk (some 9) (.bin .eql (.tmp 6) (.tmp 8)) none [1,3],.mk (some 10) (.mv (.tmp 9)) none [4],.mk (some 11) (.fld 1 (.tmp 2)) (some (10,true)) [5],.mk (some 12) (.load false 1 (.tmp 11)) (some (10,true)) [6,5],.mk (some 13) (.fld 1 (.tmp 3)) (some (10,true)) [5],.mk (some 14) (.load false 1 (.tmp 13)) (some (10,true)) [8,5],.mk (some 15) (.call 12 [.tmp 12,.tmp 14]) (some (10,true)) [7,9,5,5],.mk (some 16) (.pick (.tmp 10) (.tmp 15) (.const (.bool false))) none [5,10],.mk (some 17) (.mv (.tmp 16)) none [11,10],.mk (some 18) (.fld 2 (.tmp 2)) (some (17,true)) [12],.mk (some 19) (.load false 1 (.tmp 18)) (some (17,true)) [13,12],.mk (some 20) (.fld 2 (.tmp 3)) (some (17,true)) [12],.mk (some 21) (.load false 1 (.tmp 20)) (some (17,true)) [15,12],.mk (some 22) (.call 12 [.tmp 19,.tmp 21]) (some (17,true)) [14,16,12,12],.mk (some 23) (.pick (.tmp 17) (.tmp 22) (.const (.bool false))) none [12,17],.mk (some 4) (.mv (.tmp 23)) none [18,17,0,1,2,3,4,5,6,7,8,9,10,11,12,13,14,15,16,17,18]]
def l10 : AFn :=
  (AFn.mk 24 2 (.seq (.reg l10r0) (.seq (.reg l10r1) .ret)) [.tmp 4])
theorem l10_eq : lowFn Try.prog 10 = some l10 := by kernel_rfl
def l11r0 : List AOper :=
  [.mk (some 2) (.box (.tmp 0)) none [],.mk (some 3) (.box (.tmp 1)) none [],.mk (some 4) (.mv (.const (.bool false))) none []]
def l11r1a : List AOper :=
  [.mk (some 5) (.load true 3 (.tmp 2)) none [],.mk (some 6) (.call 17 [.tmp 5]) none [0],.mk (some 7) (.mv (.tmp 6)) none [1,1],.mk (some 8) (.load true 3 (.tmp 3)) (some (7,true)) [2],.mk (some 9) (.call 17 [.tmp 8]) (some (7,true)) [3,2,2],.mk (some 10) (.pick (.tmp 7) (.tmp 9) (.const (.bool false))) none [2,4],.mk (some 11) (.mv (.tmp 10)) none [5,4],.mk (some 12) (.fld 1 (.tmp 2)) (some (11,true)) [6],.mk (some 13) (.load false 1 (.tmp 12)) (some (11,true)) [7,6],.mk (some 14) (.fld 1 (.tmp 3)) (some (11,true)) [6],.mk (some 15) (.load false 1 (.tmp 14)) (some (11,true)) [9,6],.mk (some 16) (.call 28 [.tmp 13,.tmp 15]) (some (11,true)) [8,10,6,6],.mk (some 17) (.pick (.tmp 11) (.tmp 16) (.const (.bool false))) none [6,11],.mk (some 18) (.mv (.tmp 17)) none [12,11],.mk (some 19) (.load true 3 (.tmp 2)) (some (18,true)) [13],.mk (some 20) (.call 29 [.tmp 19]) (some (18,true)) [14,13,13],.mk (some 21) (.load true 3 (.tmp 3)) (some (18,true)) [13]]
def l11r1b : List AOper :=
  [.mk (some 22) (.call 29 [.tmp 21]) (some (18,true)) [16,15,13],.mk (some 23) (.call 28 [.tmp 20,.tmp 22]) (some (18,true)) [15,17,17,13],.mk (some 24) (.pick (.tmp 18) (.tmp 23) (.const (.bool false))) none [13,18],.mk (some 4) (.mv (.tmp 24)) none [19,18,0,1,2,3,4,5,6,7,8,9,10,11,12,13,14,15,16,17,18,19]]
def l11r1 : List AOper := l11r1a ++ l11r1b
def l11 : AFn :=
  (AFn.mk 25 2 (.seq (.reg l11r0) (.seq (.draw l11r1) .ret)) [.tmp 4])
theorem l11_eq : lowFn Try.prog 11 = some l11 := by kernel_rfl
def l12r0 : List AOper :=
  [.mk (some 4) (.mv (.const (.bool false))) none []]
def l12r1 : List AOper :=
  [.mk (some 6) (.mv (.tmp 0)) none [],.mk (some 7) (.len (.tmp 6)) none [0],.mk (some 8) (.mv (.tmp 1)) none [],.mk (some 9) (.len (.tmp 8)) none [2],.mk (some 10) (.bin .neq (.tmp 7) (.tmp 9)) none [1,3]]
def l12r2 : List AOper :=
  [.mk (some 4) (.mv (.const (.bool false))) none []]
def l12r3 : List AOper :=
  [.mk (some 5) (.mv (.const (.int .i64 0))) none []]
def l12r4 : List AOper :=
  [.mk (some 11) (.mv (.tmp 5)) none [],.mk (some 12) (.mv (.tmp 0)) none [],.mk (some 13) (.len (.tmp 12)) none [1],.mk (some 14) (.bin .lss (.tmp 11) (.tmp 13)) none [0,2]]
def l12r5a : List AOper :=
  [.mk (some 17) (.mv (.tmp 0)) none [],.mk (some 18) (.mv (.tmp 5)) none [],.mk (some 19) (.idxA 1 (.tmp 17) (.tmp 18)) none [0,1],.mk (some 20) (.load false 1 (.tmp 19)) none [2],.mk (some 21) (.mv (.tmp 1)) none [],.mk (some 22) (.mv (.tmp 5)) none [],.mk (some 23) (.idxA 1 (.tmp 21) (.tmp 22)) none [4,5],.mk (some 24) (.load false 1 (.tmp 23)) none [6]]
def l12r5b : List AOper :=
  [.mk (some 25) (.bin .neq (.tmp 20) (.tmp 24)) none [3,7]]
def l12r5 : List AOper := l12r5a ++ l12r5b
def l12r6 : List AOper :=
  [.mk (some 4) (.mv (.const (.bool false))) none []]
def l12r7 : List AOper :=
  [.mk (some 15) (.mv (.tmp 5)) none [],.mk (some 16) (.bin .add (.tmp 15) (.const (.int .i64 1))) none [0],.mk (some 5) (.mv (.tmp 16)) none [1,0,1]]
def l12r8 : List AOper :=
  [.mk (some 4) (.mv (.const (.bool true))) none []]
def l12 : AFn :=
  (AFn.mk 26 2 (.seq (.reg l12r0) (.seq (.seq (.reg l12r1) (.cond (.tmp 10) (.seq (.reg l12r2) .ret) .skip)) (.seq (.seq (.reg l12r3) (.block 0 (.loop (.seq (.seq (.reg l12r4) (.cond (.tmp 14) .skip (.exit 0))) (.seq (.block 1 (.seq (.draw l12r5) (.cond (.tmp 25) (.seq (.reg l12r6) .ret) .skip))) (.reg l12r7)))))) (.seq (.reg l12r8) .ret)))) [.tmp 4])
theorem l12_eq : lowFn Try.prog 12 = some l12 := by kernel_rfl
def l13r0 : List AOper :=
  [.mk (some 1) (.box (.tmp 0)) none [],.mk (some 2) (.mv (.const (.slice none 0 0))) none []]
def l13r1 : List AOper :=
  [.mk (some 3) (.load true 3 (.tmp 1)) none [],.mk (some 4) (.call 17 [.tmp 3]) none [0],.mk (some 5) (.un .not (.tmp 4)) none [1]]
def l13r2 : List AOper :=
  [.mk (some 2) (.mv (.const (.slice none 0 0))) none []]
def l13r3 : List AOper :=
  [.mk (some 6) (.load true 3 (.tmp 1)) none [],.mk (some 7) (.call 30 [.tmp 6]) none [0],.mk (some 2) (.mv (.tmp 7)) none [1,1,0,1]]
def l13 : AFn :=
  (AFn.mk 8 1 (.seq (.reg l13r0) (.seq (.seq (.reg l13r1) (.cond (.tmp 5) (.seq (.reg l13r2) .ret) .skip)) (.seq (.reg l13r3) .ret))) [.tmp 2])
theorem l13_eq : lowFn Try.prog 13 = some l13 := by kernel_rfl
def l17r0 : List AOper :=
  [.mk (some 1) (.box (.tmp 0)) none [],.mk (some 2) (.mv (.const (.bool false))) none []]
def l17r1 : List AOper :=
  [.mk (some 5) (.fld 1 (.tmp 1)) none [],.mk (some 6) (.load false 1 (.tmp 5)) none [0],.mk (some 7) (.call 36 [.tmp 6]) none [1],.mk (some 8) (.un .not (.tmp 7)) none [2],.mk (some 9) (.mv (.tmp 8)) none [3,2],.mk (some 10) (.fld 2 (.tmp 1)) (some (9,false)) [4],.mk (some 11) (.load false 1 (.tmp 10)) (some (9,false)) [5,4],.mk (some 12) (.fld 1 (.tmp 1)) (some (9,false)) [4],.mk (some 13) (.load false 1 (.tmp 12)) (some (9,false)) [7,4],.mk (some 14) (.len (.tmp 13)) (some (9,false)) [8,4],.mk (some 15) (.call 37 [.tmp 11,.tmp 14]) (some (9,false)) [6,9,4,4],.mk (some 16) (.un .not (.tmp 15)) (some (9,false)) [10,4],.mk (some 17) (.pick (.tmp 9) (.const (.bool true)) (.tmp 16)) none [4,11],.mk (some 18) (.mv (.tmp 17)) none [12,10],.mk (some 19) (.fld 0 (.tmp 1)) (some (18,false)) [13],.mk (some 20) (.load false 1 (.tmp 19)) (some (18,false)) [14,13],.mk (some 21) (.call 38 [.tmp 20,.const (.int .i64 60)]) (some (18,false)) [15,13,13],.mk (some 22) (.un .not (.tmp 21)) (some (18,false)) [16,13],.mk (some 23) (.pick (.tmp 18) (.const (.bool true)) (.tmp 22)) none [13,17]]
def l17r2 : List AOper :=
  [.mk (some 2) (.mv (.const (.bool false))) none []]
def l17r3 : List AOper :=
  [.mk (some 25) (.load true 3 (.tmp 1)) none [],.mk (some 26) (.call 39 [.tmp 25]) none [0],.mk (some 24) (.mv (.tmp 26)) none [1],.mk (some 27) (.extract (.tmp 24) 0) none [2],.mk (some 28) (.extract (.tmp 24) 1) none [2],.mk (some 3) (.mv (.tmp 27)) none [3,1,0,1,2,3],.mk (some 4) (.mv (.tmp 28)) none [4,5,0,1,2,3,4,5]]
def l17r4 : List AOper :=
  [.mk (some 29) (.load true 3 (.tmp 1)) none [],.mk (some 30) (.call 40 [.tmp 29]) none [0],.mk (some 31) (.bin .eql (.tmp 30) (.const (.int .i64 0))) none [1],.mk (some 32) (.mv (.tmp 31)) none [2,1],.mk (some 33) (.mv (.tmp 3)) (some (32,false)) [3],.mk (some 34) (.bin .geq (.tmp 33) (.const (.int .i64 0))) (some (32,false)) [4,3],.mk (some 35) (.mv (.tmp 34)) (some (32,false)) [5,3,3],.mk (some 36) (.mv (.tmp 4)) (some (35,true)) [6],.mk (some 37) (.bin .lss (.tmp 36) (.const (.int .i64 60))) (some (35,true)) [7,6],.mk (some 38) (.pick (.tmp 35) (.tmp 37) (.const (.bool false))) (some (32,false)) [6,8,3],.mk (some 39) (.pick (.tmp 32) (.const (.bool true)) (.tmp 38)) none [3,9],.mk (some 2) (.mv (.tmp 39)) none [10,6,0,1,2,3,4,5,6,7,8,9,10]]
def l17 : AFn :=
  (AFn.mk 40 1 (.seq (.reg l17r0) (.seq (.seq (.reg l17r1) (.cond (.tmp 23) (.seq (.reg l17r2) .ret) .skip)) (.seq (.reg l17r3) (.seq (.reg l17r4) .ret)))) [.tmp 2])
theorem l17_eq : lowFn Try.prog 17 = some l17 := by kernel_rfl
def l24r0 : List AOper :=
  [.mk (some 2) (.alloc [.int .i64 0,.slice none 0 0,.slice none 0 0]) none [],.mk (some 3) (.mv (.const (.int .i64 0))) none []]
def l24r1 : List AOper :=
  [.mk (some 5) (.mv (.tmp 0)) none [],.mk (some 6) (.call 53 [.tmp 5]) none [0],.mk (some 4) (.alloc [.int .i64 0,.slice none 0 0,.slice none 0 0]) none [],.mk none (.store 3 (.tmp 4) (.tmp 6)) none [2,1,1,0,1,2]]
def l24r2a : List AOper :=
  [.mk (some 7) (.load true 3 (.tmp 4)) none [],.mk (some 8) (.mv (.tmp 0)) none [],.mk (some 9) (.mv (.tmp 0)) none [],.mk (some 10) (.fld 1 (.tmp 4)) none [],.mk (some 11) (.load false 1 (.tmp 10)) none [3],.mk (some 12) (.len (.tmp 11)) none [4],.mk (some 13) (.bin .add (.tmp 12) (.const (.int .i64 1))) none [5],.mk (some 14) (.call 55 [.tmp 9,.tmp 13]) none [2,6],.mk (some 15) (.mv (.tmp 0)) none [],.mk (some 16) (.fld 1 (.tmp 4)) none [],.mk (some 17) (.load false 1 (.tmp 16)) none [9],.mk (some 18) (.len (.tmp 17)) none [10],.mk (some 19) (.bin .add (.tmp 18) (.const (.int .i64 1))) none [11],.mk (some 20) (.call 55 [.tmp 15,.tmp 19]) none [8,12,7],.mk (some 21) (.bslice 1 [.int .i64 0] [(0,.const (.int .i64 0)),(1,.tmp 14),(2,.const (.int .i64 1)),(3,.tmp 20),(4,.const (.int .i64 (-1)))] 5) none [7,13],.mk (some 22) (.call 54 [.tmp 8,.tmp 21]) none [1,14,13]]
def l24r2b : List AOper :=
  [.mk none (.store 3 (.tmp 2) (.tmp 7)) none [0,15,0],.mk (some 3) (.mv (.tmp 22)) none [15,16,0,1,2,3,4,5,6,7,8,9,10,11,12,13,14,15,16]]
def l24r2 : List AOper := l24r2a ++ l24r2b
def l24 : AFn :=
  (AFn.mk 23 1 (.seq (.reg l24r0) (.seq (.reg l24r1) (.seq (.draw l24r2) .ret))) [.cell 2 true 3,.tmp 3])
theorem l24_eq : lowFn Try.prog 24 = some l24 := by kernel_rfl
def l25r0 : List AOper :=
  [.mk (some 2) (.mv (.const (.pointer none))) none []]
def l25r1 : List AOper :=
  [.mk (some 3) (.mv (.tmp 0)) none [],.mk (some 4) (.len (.tmp 3)) none [0],.mk (some 5) (.bin .gtr (.tmp 4) (.const (.int .i64 2000))) none [1]]
def l25r2 : List AOper :=
  [.mk (some 6) (.mv (.tmp 0)) none [],.mk (some 7) (.slice 1 (.tmp 6) none (some (.const (.int .i64 2000)))) none [0],.mk (some 0) (.mv (.tmp 7)) none [1,0,1]]
def l25r3 : List AOper :=
  [.mk (some 8) (.mv (.tmp 0)) none [],.mk (some 9) (.build [.slice none 0 0,.int .i64 0] [(0,1,.tmp 8)]) none [0],.mk (some 10) (.box (.tmp 9)) none [1],.mk (some 2) (.mv (.tmp 10)) none [2,0,1,2]]
def l25 : AFn :=
  (AFn.mk 11 1 (.seq (.reg l25r0) (.seq (.seq (.reg l25r1) (.cond (.tmp 5) (.reg l25r2) .skip)) (.seq (.reg l25r3) .ret))) [.tmp 2])
theorem l25_eq : lowFn Try.prog 25 = some l25 := by kernel_rfl
def l26r0 : List AOper :=
  [.mk (some 3) (.box (.tmp 0)) none [],.mk (some 5) (.box (.tmp 2)) none [],.mk (some 6) (.alloc [.int .i64 0,.slice none 0 0,.slice none 0 0]) none [],.mk (some 7) (.mv (.const (.bool false))) none []]
def l26r1 : List AOper :=
  [.mk (some 10) (.load true 3 (.tmp 3)) none [],.mk (some 11) (.mv (.tmp 1)) none [],.mk (some 12) (.call 56 [.tmp 10,.tmp 11]) none [0,1],.mk (some 13) (.un .not (.tmp 12)) none [2],.mk (some 14) (.mv (.tmp 13)) none [3,2],.mk (some 15) (.load true 5 (.tmp 5)) (some (14,false)) [4],.mk (some 16) (.call 57 [.tmp 15]) (some (14,false)) [5,4,4],.mk (some 17) (.un .not (.tmp 16)) (some (14,false)) [6,4],.mk (some 18) (.pick (.tmp 14) (.const (.bool true)) (.tmp 17)) none [4,7]]
def l26r2 : List AOper :=
  [.mk (some 19) (.build [.int .i64 0,.slice none 0 0,.slice none 0 0] []) none [],.mk none (.store 3 (.tmp 6) (.tmp 19)) none [0,0],.mk (some 7) (.mv (.const (.bool false))) none [1,0,1]]
def l26r3a : List AOper :=
  [.mk (some 20) (.load true 5 (.tmp 5)) none [],.mk (some 21) (.fld 1 (.tmp 3)) none [],.mk (some 22) (.load false 1 (.tmp 21)) none [1],.mk (some 23) (.mv (.tmp 1)) none [],.mk (some 24) (.idxA 1 (.tmp 22) (.tmp 23)) none [2,3],.mk (some 25) (.load false 1 (.tmp 24)) none [4],.mk (some 26) (.call 58 [.tmp 20,.tmp 25]) none [0,5],.mk (some 8) (.alloc [.int .i64 0,.int .i64 0,.int .i64 0]) none []]
def l26r3b : List AOper :=
  [.mk none (.store 3 (.tmp 8) (.tmp 26)) none [7,6,6,0,1,2,3,4,5,6,7]]
def l26r3 : List AOper := l26r3a ++ l26r3b
def l26r4 : List AOper :=
  [.mk (some 27) (.load true 3 (.tmp 3)) none [],.mk (some 28) (.call 59 [.tmp 27]) none [0],.mk (some 9) (.alloc [.int .i64 0,.slice none 0 0,.slice none 0 0,.int .i64 0,.int .i64 0,.int .i64 0,.int .i64 0,.slice none 0 0]) none [],.mk none (.store 8 (.tmp 9) (.tmp 28)) none [2,1,1,0,1,2]]
def l26r5 : List AOper :=
  [.mk (some 29) (.mv (.tmp 1)) none [],.mk (some 30) (.fld 0 (.tmp 8)) none [],.mk (some 31) (.load false 1 (.tmp 30)) none [1],.mk (some 32) (.fld 3 (.tmp 9)) none [],.mk (some 33) (.idxP 1 4 (.tmp 32) (.tmp 29)) none [3,0,0,1,2],.mk none (.store 1 (.tmp 33) (.tmp 31)) none [4,2,0,1,2]]
def l26r6a : List AOper :=
  [.mk (some 34) (.fld 7 (.tmp 9)) none [],.mk (some 35) (.load false 1 (.tmp 34)) none [0],.mk (some 36) (.mv (.tmp 1)) none [],.mk (some 37) (.load true 3 (.tmp 8)) none [],.mk (some 38) (.call 34 [.tmp 37]) none [3],.mk (some 39) (.fld 2 (.tmp 3)) none [],.mk (some 40) (.load false 1 (.tmp 39)) none [5],.mk (some 41) (.mv (.tmp 1)) none [],.mk (some 42) (.idxA 1 (.tmp 40) (.tmp 41)) none [6,7],.mk (some 43) (.load false 1 (.tmp 42)) none [8],.mk (some 44) (.fld 2 (.tmp 8)) none [],.mk (some 45) (.load false 1 (.tmp 44)) none [10],.mk (some 46) (.bin .mul (.tmp 43) (.tmp 45)) none [9,11],.mk (some 47) (.call 60 [.tmp 38,.tmp 46]) none [4,12,4]]
def l26r6b : List AOper :=
  [.mk (some 48) (.idxA 2 (.tmp 35) (.tmp 36)) none [1,2,0,1,2,3,4,5,6,7,8,9,10,11,12,13],.mk none (.store 2 (.tmp 48) (.tmp 47)) none [14,13,13,0,1,2,3,4,5,6,7,8,9,10,11,12,13]]
def l26r6 : List AOper := l26r6a ++ l26r6b
def l26r7 : List AOper :=
  [.mk (some 49) (.load true 8 (.tmp 9)) none [],.mk (some 50) (.call 61 [.tmp 49]) none [0],.mk none (.store 3 (.tmp 6) (.tmp 50)) none [1,1,0,1],.mk (some 7) (.mv (.const (.bool true))) none [2,0,1,2]]
def l26 : AFn :=
  (AFn.mk 51 3 (.seq (.reg l26r0) (.seq (.seq (.reg l26r1) (.cond (.tmp 18) (.seq (.reg l26r2) .ret) .skip)) (.seq (.draw l26r3) (.seq (.reg l26r4) (.seq (.reg l26r5) (.seq (.draw l26r6) (.seq (.reg l26r7) .ret))))))) [.cell 6 true 3,.tmp 7])
theorem l26_eq : lowFn Try.prog 26 = some l26 := by kernel_rfl
def l27r0 : List AOper :=
  [.mk (some 3) (.box (.tmp 0)) none [],.mk (some 5) (.box (.tmp 2)) none [],.mk (some 6) (.alloc [.int .i64 0,.slice none 0 0,.slice none 0 0]) none [],.mk (some 7) (.mv (.const (.bool false))) none []]
def l27r1 : List AOper :=
  [.mk (some 8) (.load true 3 (.tmp 3)) none [],.mk (some 9) (.call 48 [.tmp 8]) none [0],.mk (some 10) (.un .not (.tmp 9)) none [1],.mk (some 11) (.mv (.tmp 10)) none [2,1],.mk (some 12) (.load true 3 (.tmp 3)) (some (11,false)) [3],.mk (some 13) (.mv (.tmp 1)) (some (11,false)) [3],.mk (some 14) (.call 62 [.tmp 12,.tmp 13]) (some (11,false)) [4,5,3,3],.mk (some 15) (.un .not (.tmp 14)) (some (11,false)) [6,3],.mk (some 16) (.pick (.tmp 11) (.const (.bool true)) (.tmp 15)) none [3,7],.mk (some 17) (.mv (.tmp 16)) none [8,6],.mk (some 18) (.load true 5 (.tmp 5)) (some (17,false)) [9],.mk (some 19) (.call 63 [.tmp 18]) (some (17,false)) [10,9,9],.mk (some 20) (.un .not (.tmp 19)) (some (17,false)) [11,9],.mk (some 21) (.pick (.tmp 17) (.const (.bool true)) (.tmp 20)) none [9,12]]
def l27r2 : List AOper :=
  [.mk (some 22) (.build [.int .i64 0,.slice none 0 0,.slice none 0 0] []) none [],.mk none (.store 3 (.tmp 6) (.tmp 22)) none [0,0],.mk (some 7) (.mv (.const (.bool false))) none [1,0,1]]
def l27r3 : List AOper :=
  [.mk (some 23) (.load true 3 (.tmp 3)) none [],.mk (some 24) (.mv (.tmp 1)) none [],.mk (some 25) (.load true 5 (.tmp 5)) none [],.mk (some 26) (.call 65 [.tmp 23,.tmp 24,.tmp 25]) none [0,1,2],.mk (some 27) (.call 64 [.tmp 26]) none [3,3],.mk (some 28) (.extract (.tmp 27) 0) none [4],.mk (some 29) (.extract (.tmp 27) 1) none [4],.mk none (.store 3 (.tmp 6) (.tmp 28)) none [5,4,0,1,2,3,4,5,6],.mk (some 7) (.mv (.tmp 29)) none [6,7,0,1,2,3,4,5,6,7]]
def l27 : AFn :=
  (AFn.mk 30 3 (.seq (.reg l27r0) (.seq (.seq (.reg l27r1) (.cond (.tmp 21) (.seq (.reg l27r2) .ret) .skip)) (.seq (.reg l27r3) .ret))) [.cell 6 true 3,.tmp 7])
theorem l27_eq : lowFn Try.prog 27 = some l27 := by kernel_rfl
def l28r0 : List AOper :=
  [.mk (some 4) (.mv (.const (.bool false))) none []]
def l28r1 : List AOper :=
  [.mk (some 6) (.mv (.tmp 0)) none [],.mk (some 7) (.len (.tmp 6)) none [0],.mk (some 8) (.mv (.tmp 1)) none [],.mk (some 9) (.len (.tmp 8)) none [2],.mk (some 10) (.bin .neq (.tmp 7) (.tmp 9)) none [1,3]]
def l28r2 : List AOper :=
  [.mk (some 4) (.mv (.const (.bool false))) none []]
def l28r3 : List AOper :=
  [.mk (some 11) (.mv (.tmp 0)) none [],.mk (some 12) (.len (.tmp 11)) none [0],.mk (some 13) (.mv (.const (.int .i64 0))) none []]
def l28r4 : List AOper :=
  [.mk (some 14) (.bin .lss (.tmp 13) (.tmp 12)) none []]
def l28r5 : List AOper :=
  [.mk (some 15) (.mv (.tmp 13)) none [],.mk (some 5) (.mv (.tmp 15)) none [0,0]]
def l28r6a : List AOper :=
  [.mk (some 16) (.mv (.tmp 0)) none [],.mk (some 17) (.mv (.tmp 5)) none [],.mk (some 18) (.idxA 1 (.tmp 16) (.tmp 17)) none [0,1],.mk (some 19) (.load false 1 (.tmp 18)) none [2],.mk (some 20) (.mv (.tmp 1)) none [],.mk (some 21) (.mv (.tmp 5)) none [],.mk (some 22) (.idxA 1 (.tmp 20) (.tmp 21)) none [4,5],.mk (some 23) (.load false 1 (.tmp 22)) none [6]]
def l28r6b : List AOper :=
  [.mk (some 24) (.bin .neq (.tmp 19) (.tmp 23)) none [3,7]]
def l28r6 : List AOper := l28r6a ++ l28r6b
def l28r7 : List AOper :=
  [.mk (some 4) (.mv (.const (.bool false))) none []]
def l28r8 : List AOper :=
  [.mk (some 25) (.bin .add (.tmp 13) (.const (.int .i64 1))) none [],.mk (some 13) (.mv (.tmp 25)) none [0]]
def l28r9 : List AOper :=
  [.mk (some 4) (.mv (.const (.bool true))) none []]
def l28 : AFn :=
  (AFn.mk 26 2 (.seq (.reg l28r0) (.seq (.seq (.reg l28r1) (.cond (.tmp 10) (.seq (.reg l28r2) .ret) .skip)) (.seq (.seq (.reg l28r3) (.block 0 (.loop (.seq (.reg l28r4) (.seq (.cond (.tmp 14) .skip (.exit 0)) (.seq (.block 1 (.seq (.reg l28r5) (.seq (.draw l28r6) (.cond (.tmp 24) (.seq (.reg l28r7) .ret) .skip)))) (.reg l28r8))))))) (.seq (.reg l28r9) .ret)))) [.tmp 4])
theorem l28_eq : lowFn Try.prog 28 = some l28 := by kernel_rfl
def l29r0 : List AOper :=
  [.mk (some 1) (.box (.tmp 0)) none [],.mk (some 2) (.mv (.const (.slice none 0 0))) none []]
def l29r1 : List AOper :=
  [.mk (some 5) (.load true 3 (.tmp 1)) none [],.mk (some 6) (.call 40 [.tmp 5]) none [0],.mk (some 7) (.mkslice 1 [.int .i64 0] (.tmp 6) (.tmp 6)) none [1,1],.mk (some 3) (.mv (.tmp 7)) none [2,1,0,1,2]]
def l29r2 : List AOper :=
  [.mk (some 8) (.mv (.tmp 3)) none [],.mk (some 9) (.len (.tmp 8)) none [0],.mk (some 10) (.mv (.const (.int .i64 0))) none []]
def l29r3 : List AOper :=
  [.mk (some 11) (.bin .lss (.tmp 10) (.tmp 9)) none []]
def l29r4 : List AOper :=
  [.mk (some 12) (.mv (.tmp 10)) none [],.mk (some 4) (.mv (.tmp 12)) none [0,0]]
def l29r5a : List AOper :=
  [.mk (some 13) (.mv (.tmp 3)) none [],.mk (some 14) (.mv (.tmp 4)) none [],.mk (some 15) (.load true 3 (.tmp 1)) none [],.mk (some 16) (.fld 1 (.tmp 1)) none [],.mk (some 17) (.load false 1 (.tmp 16)) none [3],.mk (some 18) (.mv (.tmp 4)) none [],.mk (some 19) (.call 67 [.tmp 17,.tmp 18]) none [4,5],.mk (some 20) (.call 66 [.tmp 15,.tmp 19]) none [2,6,6]]
def l29r5b : List AOper :=
  [.mk (some 21) (.idxA 1 (.tmp 13) (.tmp 14)) none [0,1,0,1,2,3,4,5,6,7],.mk none (.store 1 (.tmp 21) (.tmp 20)) none [8,7,7,0,1,2,3,4,5,6,7]]
def l29r5 : List AOper := l29r5a ++ l29r5b
def l29r6 : List AOper :=
  [.mk (some 22) (.bin .add (.tmp 10) (.const (.int .i64 1))) none [],.mk (some 10) (.mv (.tmp 22)) none [0]]
def l29r7 : List AOper :=
  [.mk (some 23) (.mv (.tmp 3)) none [],.mk (some 2) (.mv (.tmp 23)) none [0,0]]
def l29 : AFn :=
  (AFn.mk 24 1 (.seq (.reg l29r0) (.seq (.reg l29r1) (.seq (.seq (.reg l29r2) (.block 0 (.loop (.seq (.reg l29r3) (.seq (.cond (.tmp 11) .skip (.exit 0)) (.seq (.block 1 (.seq (.reg l29r4) (.draw l29r5))) (.reg l29r6))))))) (.seq (.reg l29r7) .ret)))) [.tmp 2])
theorem l29_eq : lowFn Try.prog 29 = some l29 := by kernel_rfl
def l30r0 : List AOper :=
  [.mk (some 1) (.box (.tmp 0)) none [],.mk (some 2) (.mv (.const (.slice none 0 0))) none []]
def l30r1 : List AOper :=
  [.mk (some 3) (.load true 3 (.tmp 1)) none [],.mk (some 4) (.bslice 3 [.int .i64 0,.slice none 0 0,.slice none 0 0] [(0,.tmp 3)] 1) none [0],.mk (some 5) (.call 41 [.tmp 4]) none [1],.mk (some 6) (.call 68 [.tmp 5,.const (.int .i64 1)]) none [2,2],.mk (some 2) (.mv (.tmp 6)) none [3,3,0,1,2,3]]
def l30 : AFn :=
  (AFn.mk 7 1 (.seq (.reg l30r0) (.seq (.reg l30r1) .ret)) [.tmp 2])
theorem l30_eq : lowFn Try.prog 30 = some l30 := by kernel_rfl
def l34r0 : List AOper :=
  [.mk (some 1) (.box (.tmp 0)) none [],.mk (some 2) (.mv (.const (.int .i64 0))) none []]
def l34r1a : List AOper :=
  [.mk (some 5) (.fld 1 (.tmp 1)) none [],.mk (some 6) (.load false 1 (.tmp 5)) none [0],.mk (some 7) (.fld 0 (.tmp 1)) none [],.mk (some 8) (.load false 1 (.tmp 7)) none [2],.mk (some 9) (.bin .sub (.tmp 6) (.tmp 8)) none [1,3],.mk (some 10) (.fld 2 (.tmp 1)) none [],.mk (some 11) (.load false 1 (.tmp 10)) none [5],.mk (some 3) (.mv (.tmp 9)) none [4,0,1,2,3,4]]
def l34r1b : List AOper :=
  [.mk (some 4) (.mv (.tmp 11)) none [6,7,0,1,2,3,4,5,6,7]]
def l34r1 : List AOper := l34r1a ++ l34r1b
def l34r2 : List AOper :=
  [.mk (some 12) (.mv (.tmp 4)) none [],.mk (some 13) (.bin .lss (.tmp 12) (.const (.int .i64 0))) none [0]]
def l34r3 : List AOper :=
  [.mk (some 14) (.mv (.tmp 3)) none [],.mk (some 15) (.un .neg (.tmp 14)) none [0],.mk (some 16) (.mv (.tmp 4)) none [],.mk (some 17) (.un .neg (.tmp 16)) none [2],.mk (some 3) (.mv (.tmp 15)) none [1,0,1],.mk (some 4) (.mv (.tmp 17)) none [3,4,0,1,2,3,4]]
def l34r4 : List AOper :=
  [.mk (some 18) (.mv (.tmp 3)) none [],.mk (some 19) (.bin .leq (.tmp 18) (.const (.int .i64 0))) none [0]]
def l34r5 : List AOper :=
  [.mk (some 2) (.mv (.const (.int .i64 0))) none []]
def l34r6 : List AOper :=
  [.mk (some 20) (.mv (.tmp 3)) none [],.mk (some 21) (.mv (.tmp 4)) none [],.mk (some 22) (.bin .add (.tmp 20) (.tmp 21)) none [0,1],.mk (some 23) (.bin .sub (.tmp 22) (.const (.int .i64 1))) none [2],.mk (some 24) (.mv (.tmp 4)) none [],.mk (some 25) (.bin .quo (.tmp 23) (.tmp 24)) none [3,4],.mk (some 2) (.mv (.tmp 25)) none [5,0,1,2,3,4,5]]
def l34 : AFn :=
  (AFn.mk 26 1 (.seq (.reg l34r0) (.seq (.draw l34r1) (.seq (.seq (.reg l34r2) (.cond (.tmp 13) (.reg l34r3) .skip)) (.seq (.seq (.reg l34r4) (.cond (.tmp 19) (.seq (.reg l34r5) .ret) .skip)) (.seq (.reg l34r6) .ret))))) [.tmp 2])
theorem l34_eq : lowFn Try.prog 34 = some l34 := by kernel_rfl
def l36r0 : List AOper :=
  [.mk (some 2) (.mv (.const (.bool false))) none []]
def l36r1 : List AOper :=
  [.mk (some 5) (.mv (.tmp 0)) none [],.mk (some 6) (.len (.tmp 5)) none [0],.mk (some 7) (.bin .gtr (.tmp 6) (.const (.int .i64 4))) none [1]]
def l36r2 : List AOper :=
  [.mk (some 2) (.mv (.const (.bool false))) none []]
def l36r3 : List AOper :=
  [.mk (some 8) (.mv (.tmp 0)) none [],.mk (some 9) (.len (.tmp 8)) none [0],.mk (some 10) (.mv (.const (.int .i64 0))) none []]
def l36r4 : List AOper :=
  [.mk (some 11) (.bin .lss (.tmp 10) (.tmp 9)) none []]
def l36r5 : List AOper :=
  [.mk (some 12) (.idxA 1 (.tmp 8) (.tmp 10)) none [],.mk (some 13) (.load false 1 (.tmp 12)) none [0],.mk (some 4) (.mv (.tmp 13)) none [1,0,1]]
def l36r6 : List AOper :=
  [.mk (some 14) (.mv (.tmp 4)) none [],.mk (some 15) (.call 38 [.tmp 14,.const (.int .i64 60)]) none [0],.mk (some 16) (.un .not (.tmp 15)) none [1]]
def l36r7 : List AOper :=
  [.mk (some 2) (.mv (.const (.bool false))) none []]
def l36r8 : List AOper :=
  [.mk (some 17) (.bin .add (.tmp 10) (.const (.int .i64 1))) none [],.mk (some 10) (.mv (.tmp 17)) none [0]]
def l36r9 : List AOper :=
  [.mk (some 18) (.mv (.tmp 0)) none [],.mk (some 19) (.call 76 [.tmp 18]) none [0],.mk (some 20) (.bin .leq (.tmp 19) (.const (.int .i64 60))) none [1],.mk (some 2) (.mv (.tmp 20)) none [2,1,0,1,2]]
def l36 : AFn :=
  (AFn.mk 21 1 (.seq (.reg l36r0) (.seq (.seq (.reg l36r1) (.cond (.tmp 7) (.seq (.reg l36r2) .ret) .skip)) (.seq (.seq (.reg l36r3) (.block 0 (.loop (.seq (.reg l36r4) (.seq (.cond (.tmp 11) .skip (.exit 0)) (.seq (.block 1 (.seq (.reg l36r5) (.seq (.reg l36r6) (.cond (.tmp 16) (.seq (.reg l36r7) .ret) .skip)))) (.reg l36r8))))))) (.seq (.reg l36r9) .ret)))) [.tmp 2])
theorem l36_eq : lowFn Try.prog 36 = some l36 := by kernel_rfl
def l37r0 : List AOper :=
  [.mk (some 4) (.mv (.const (.bool false))) none []]
def l37r1 : List AOper :=
  [.mk (some 7) (.mv (.tmp 0)) none [],.mk (some 8) (.len (.tmp 7)) none [0],.mk (some 9) (.mv (.tmp 1)) none [],.mk (some 10) (.bin .neq (.tmp 8) (.tmp 9)) none [1,2]]
def l37r2 : List AOper :=
  [.mk (some 4) (.mv (.const (.bool false))) none []]
def l37r3 : List AOper :=
  [.mk (some 11) (.mv (.tmp 0)) none [],.mk (some 12) (.len (.tmp 11)) none [0],.mk (some 13) (.mv (.const (.int .i64 0))) none []]
def l37r4 : List AOper :=
  [.mk (some 14) (.bin .lss (.tmp 13) (.tmp 12)) none []]
def l37r5 : List AOper :=
  [.mk (some 15) (.idxA 1 (.tmp 11) (.tmp 13)) none [],.mk (some 16) (.load false 1 (.tmp 15)) none [0],.mk (some 6) (.mv (.tmp 16)) none [1,0,1]]
def l37r6 : List AOper :=
  [.mk (some 17) (.mv (.tmp 6)) none [],.mk (some 18) (.call 77 [.tmp 17,.const (.int .i64 60)]) none [0],.mk (some 19) (.un .not (.tmp 18)) none [1]]
def l37r7 : List AOper :=
  [.mk (some 4) (.mv (.const (.bool false))) none []]
def l37r8 : List AOper :=
  [.mk (some 20) (.bin .add (.tmp 13) (.const (.int .i64 1))) none [],.mk (some 13) (.mv (.tmp 20)) none [0]]
def l37r9 : List AOper :=
  [.mk (some 4) (.mv (.const (.bool true))) none []]
def l37 : AFn :=
  (AFn.mk 21 2 (.seq (.reg l37r0) (.seq (.seq (.reg l37r1) (.cond (.tmp 10) (.seq (.reg l37r2) .ret) .skip)) (.seq (.seq (.reg l37r3) (.block 0 (.loop (.seq (.reg l37r4) (.seq (.cond (.tmp 14) .skip (.exit 0)) (.seq (.block 1 (.seq (.reg l37r5) (.seq (.reg l37r6) (.cond (.tmp 19) (.seq (.reg l37r7) .ret) .skip)))) (.reg l37r8))))))) (.seq (.reg l37r9) .ret)))) [.tmp 4])
theorem l37_eq : lowFn Try.prog 37 = some l37 := by kernel_rfl
def l38r0 : List AOper :=
  [.mk (some 4) (.mv (.const (.bool false))) none []]
def l38r1 : List AOper :=
  [.mk (some 5) (.mv (.tmp 0)) none [],.mk (some 6) (.bin .leq (.const (.int .i64 0)) (.tmp 5)) none [0],.mk (some 7) (.mv (.tmp 6)) none [1],.mk (some 8) (.mv (.tmp 0)) (some (7,true)) [2],.mk (some 9) (.mv (.tmp 1)) (some (7,true)) [2],.mk (some 10) (.bin .leq (.tmp 8) (.tmp 9)) (some (7,true)) [3,4,2],.mk (some 11) (.pick (.tmp 7) (.tmp 10) (.const (.bool false))) none [2,5],.mk (some 4) (.mv (.tmp 11)) none [6,2,0,1,2,3,4,5,6]]
def l38 : AFn :=
  (AFn.mk 12 2 (.seq (.reg l38r0) (.seq (.reg l38r1) .ret)) [.tmp 4])
theorem l38_eq : lowFn Try.prog 38 = some l38 := by kernel_rfl
def l39r0 : List AOper :=
  [.mk (some 1) (.box (.tmp 0)) none [],.mk (some 2) (.mv (.const (.int .i64 0))) none [],.mk (some 3) (.mv (.const (.int .i64 0))) none [1]]
def l39r1 : List AOper :=
  [.mk (some 9) (.load true 3 (.tmp 1)) none [],.mk (some 10) (.call 40 [.tmp 9]) none [0],.mk (some 11) (.bin .eql (.tmp 10) (.const (.int .i64 0))) none [1]]
def l39r2 : List AOper :=
  [.mk (some 2) (.mv (.const (.int .i64 (-1)))) none [],.mk (some 3) (.mv (.const (.int .i64 (-1)))) none [0,0]]
def l39r3a : List AOper :=
  [.mk (some 12) (.fld 0 (.tmp 1)) none [],.mk (some 13) (.load false 1 (.tmp 12)) none [0],.mk (some 14) (.fld 0 (.tmp 1)) none [],.mk (some 15) (.load false 1 (.tmp 14)) none [2],.mk (some 4) (.mv (.tmp 13)) none [1,0,1]]
def l39r3b : List AOper :=
  [.mk (some 5) (.mv (.tmp 15)) none [3,4,0,1,2,3,4]]
def l39r3 : List AOper := l39r3a ++ l39r3b
def l39r4 : List AOper :=
  [.mk (some 16) (.fld 2 (.tmp 1)) none [],.mk (some 17) (.load false 1 (.tmp 16)) none [0],.mk (some 18) (.len (.tmp 17)) none [1],.mk (some 19) (.mv (.const (.int .i64 0))) none []]
def l39r5 : List AOper :=
  [.mk (some 20) (.bin .lss (.tmp 19) (.tmp 18)) none []]
def l39r6 : List AOper :=
  [.mk (some 21) (.mv (.tmp 19)) none [],.mk (some 22) (.idxA 1 (.tmp 17) (.tmp 19)) none [],.mk (some 23) (.load false 1 (.tmp 22)) none [1],.mk (some 6) (.mv (.tmp 21)) none [0,0,1,2],.mk (some 7) (.mv (.tmp 23)) none [2,3,0,1,2,3]]
def l39r7 : List AOper :=
  [.mk (some 24) (.fld 1 (.tmp 1)) none [],.mk (some 25) (.load false 1 (.tmp 24)) none [0],.mk (some 26) (.mv (.tmp 6)) none [],.mk (some 27) (.idxA 1 (.tmp 25) (.tmp 26)) none [1,2],.mk (some 28) (.load false 1 (.tmp 27)) none [3],.mk (some 29) (.bin .sub (.tmp 28) (.const (.int .i64 1))) none [4],.mk (some 30) (.mv (.tmp 7)) none [],.mk (some 31) (.bin .mul (.tmp 29) (.tmp 30)) none [5,6],.mk (some 8) (.mv (.tmp 31)) none [7,0,1,2,3,4,5,6,7]]
def l39r8 : List AOper :=
  [.mk (some 32) (.mv (.tmp 4)) none [],.mk (some 33) (.mv (.tmp 8)) none [],.mk (some 34) (.minmax false (.tmp 33) (.const (.int .i64 0))) none [1],.mk (some 35) (.bin .add (.tmp 32) (.tmp 34)) none [0,2],.mk (some 4) (.mv (.tmp 35)) none [3,0,1,2,3]]
def l39r9 : List AOper :=
  [.mk (some 36) (.mv (.tmp 5)) none [],.mk (some 37) (.mv (.tmp 8)) none [],.mk (some 38) (.minmax true (.tmp 37) (.const (.int .i64 0))) none [1],.mk (some 39) (.bin .add (.tmp 36) (.tmp 38)) none [0,2],.mk (some 5) (.mv (.tmp 39)) none [3,0,1,2,3]]
def l39r10 : List AOper :=
  [.mk (some 40) (.bin .add (.tmp 19) (.const (.int .i64 1))) none [],.mk (some 19) (.mv (.tmp 40)) none [0]]
def l39r11 : List AOper :=
  [.mk (some 41) (.mv (.tmp 4)) none [],.mk (some 42) (.mv (.tmp 5)) none [],.mk (some 2) (.mv (.tmp 41)) none [0,0],.mk (some 3) (.mv (.tmp 42)) none [1,2,0,1,2]]
def l39 : AFn :=
  (AFn.mk 43 1 (.seq (.reg l39r0) (.seq (.seq (.reg l39r1) (.cond (.tmp 11) (.seq (.reg l39r2) .ret) .skip)) (.seq (.draw l39r3) (.seq (.seq (.reg l39r4) (.block 0 (.loop (.seq (.reg l39r5) (.seq (.cond (.tmp 20) .skip (.exit 0)) (.seq (.block 1 (.seq (.reg l39r6) (.seq (.reg l39r7) (.seq (.reg l39r8) (.reg l39r9))))) (.reg l39r10))))))) (.seq (.reg l39r11) .ret))))) [.tmp 2,.tmp 3])
theorem l39_eq : lowFn Try.prog 39 = some l39 := by kernel_rfl
def l40r0 : List AOper :=
  [.mk (some 1) (.box (.tmp 0)) none [],.mk (some 2) (.mv (.const (.int .i64 0))) none []]
def l40r1 : List AOper :=
  [.mk (some 3) (.fld 1 (.tmp 1)) none [],.mk (some 4) (.load false 1 (.tmp 3)) none [0],.mk (some 5) (.call 76 [.tmp 4]) none [1],.mk (some 2) (.mv (.tmp 5)) none [2,2,0,1,2]]
def l40 : AFn :=
  (AFn.mk 6 1 (.seq (.reg l40r0) (.seq (.reg l40r1) .ret)) [.tmp 2])
theorem l40_eq : lowFn Try.prog 40 = some l40 := by kernel_rfl
def l41r0 : List AOper :=
  [.mk (some 2) (.mv (.const (.map none))) none []]
def l41r1 : List AOper :=
  [.mk (some 6) (.raw (Op.makeMap 58 none)) none [],.mk (some 3) (.mv (.tmp 6)) none [0,0]]
def l41r2 : List AOper :=
  [.mk (some 7) (.mv (.tmp 0)) none [],.mk (some 8) (.len (.tmp 7)) none [0],.mk (some 9) (.mv (.const (.int .i64 0))) none []]
def l41r3 : List AOper :=
  [.mk (some 10) (.bin .lss (.tmp 9) (.tmp 8)) none []]
def l41r4 : List AOper :=
  [.mk (some 11) (.idxA 3 (.tmp 7) (.tmp 9)) none [],.mk (some 12) (.load true 3 (.tmp 11)) none [0],.mk (some 5) (.alloc [.int .i64 0,.slice none 0 0,.slice none 0 0]) none [],.mk none (.store 3 (.tmp 5) (.tmp 12)) none [2,1,0,1,2]]
def l41r5 : List AOper :=
  [.mk (some 13) (.mv (.tmp 3)) none [],.mk (some 14) (.load true 3 (.tmp 5)) none [],.mk (some 15) (.call 29 [.tmp 14]) none [1],.mk (some 16) (.call 78 [.tmp 13,.tmp 15]) none [0,2,2]]
def l41r6 : List AOper :=
  [.mk (some 17) (.bin .add (.tmp 9) (.const (.int .i64 1))) none [],.mk (some 9) (.mv (.tmp 17)) none [0]]
def l41r7 : List AOper :=
  [.mk (some 18) (.mv (.tmp 3)) none [],.mk (some 2) (.mv (.tmp 18)) none [0,0]]
def l41 : AFn :=
  (AFn.mk 19 1 (.seq (.reg l41r0) (.seq (.reg l41r1) (.seq (.seq (.reg l41r2) (.block 0 (.loop (.seq (.reg l41r3) (.seq (.cond (.tmp 10) .skip (.exit 0)) (.seq (.block 1 (.seq (.reg l41r4) (.reg l41r5))) (.reg l41r6))))))) (.seq (.reg l41r7) .ret)))) [.tmp 2])
theorem l41_eq : lowFn Try.prog 41 = some l41 := by kernel_rfl
def l48r0 : List AOper :=
  [.mk (some 1) (.box (.tmp 0)) none [],.mk (some 2) (.mv (.const (.bool false))) none []]
def l48r1 : List AOper :=
  [.mk (some 3) (.fld 1 (.tmp 1)) none [],.mk (some 4) (.load false 1 (.tmp 3)) none [0],.mk (some 5) (.call 82 [.tmp 4]) none [1],.mk (some 6) (.mv (.tmp 5)) none [2,2],.mk (some 7) (.fld 2 (.tmp 1)) (some (6,true)) [3],.mk (some 8) (.load false 1 (.tmp 7)) (some (6,true)) [4,3],.mk (some 9) (.len (.tmp 8)) (some (6,true)) [5,3],.mk (some 10) (.fld 1 (.tmp 1)) (some (6,true)) [3],.mk (some 11) (.load false 1 (.tmp 10)) (some (6,true)) [7,3],.mk (some 12) (.len (.tmp 11)) (some (6,true)) [8,3],.mk (some 13) (.bin .eql (.tmp 9) (.tmp 12)) (some (6,true)) [6,9,3],.mk (some 14) (.pick (.tmp 6) (.tmp 13) (.const (.bool false))) none [3,10],.mk (some 15) (.mv (.tmp 14)) none [11,3],.mk (some 16) (.fld 2 (.tmp 1)) (some (15,true)) [12],.mk (some 17) (.load false 1 (.tmp 16)) (some (15,true)) [13,12],.mk (some 18) (.call 83 [.tmp 17,.const (.int .i64 (-60)),.const (.int .i64 60)]) (some (15,true)) [14,12,12],.mk (some 19) (.pick (.tmp 15) (.tmp 18) (.const (.bool false))) none [12,15],.mk (some 20) (.mv (.tmp 19)) none [16,15],.mk (some 21) (.fld 0 (.tmp 1)) (some (20,true)) [17],.mk (some 22) (.load false 1 (.tmp 21)) (some (20,true)) [18,17],.mk (some 23) (.call 84 [.tmp 22,.const (.int .i64 0),.const (.int .i64 60)]) (some (20,true)) [19,17,17],.mk (some 24) (.pick (.tmp 20) (.tmp 23) (.const (.bool false))) none [17,20],.mk (some 25) (.mv (.tmp 24)) none [21,20],.mk (some 26) (.fld 1 (.tmp 1)) (some (25,true)) [22],.mk (some 27) (.load false 1 (.tmp 26)) (some (25,true)) [23,22],.mk (some 28) (.call 75 [.tmp 27]) (some (25,true)) [24,22,22],.mk (some 29) (.bin .eql (.tmp 28) (.const (.int .i64 0))) (some (25,true)) [25,22],.mk (some 30) (.mv (.tmp 29)) (some (25,true)) [26,25,22],.mk (some 31) (.load true 3 (.tmp 1)) (some (30,false)) [27],.mk (some 32) (.call 50 [.tmp 31]) (some (30,false)) [28,27,27],.mk (some 33) (.call 83 [.tmp 32,.const (.int .i64 0),.const (.int .i64 59)]) (some (30,false)) [29,29,27],.mk (some 34) (.pick (.tmp 30) (.const (.bool true)) (.tmp 33)) (some (25,true)) [27,30,22],.mk (some 35) (.pick (.tmp 25) (.tmp 34) (.const (.bool false))) none [22,31],.mk (some 2) (.mv (.tmp 35)) none [32,30,0,1,2,3,4,5,6,7,8,9,10,11,12,13,14,15,16,17,18,19,20,21,22,23,24,25,26,27,28,29,30,31,32]]
def l48 : AFn :=
  (AFn.mk 36 1 (.seq (.reg l48r0) (.seq (.reg l48r1) .ret)) [.tmp 2])
theorem l48_eq : lowFn Try.prog 48 = some l48 := by kernel_rfl
def l50r0 : List AOper :=
  [.mk (some 1) (.box (.tmp 0)) none [],.mk (some 2) (.mv (.const (.slice none 0 0))) none []]
def l50r1 : List AOper :=
  [.mk (some 5) (.bslice 1 [.int .i64 0] [] 0) none [],.mk (some 3) (.mv (.tmp 5)) none [0,0]]
def l50r2 : List AOper :=
  [.mk (some 4) (.mv (.const (.int .i64 0))) none []]
def l50r3 : List AOper :=
  [.mk (some 6) (.mv (.tmp 4)) none [],.mk (some 7) (.fld 1 (.tmp 1)) none [],.mk (some 8) (.load false 1 (.tmp 7)) none [1],.mk (some 9) (.call 75 [.tmp 8]) none [2],.mk (some 10) (.bin .lss (.tmp 6) (.tmp 9)) none [0,3]]
def l50r4a : List AOper :=
  [.mk (some 13) (.mv (.tmp 3)) none [],.mk (some 14) (.load true 3 (.tmp 1)) none [],.mk (some 15) (.fld 1 (.tmp 1)) none [],.mk (some 16) (.load false 1 (.tmp 15)) none [2],.mk (some 17) (.mv (.tmp 4)) none [],.mk (some 18) (.call 86 [.tmp 16,.tmp 17]) none [3,4],.mk (some 19) (.call 85 [.tmp 14,.tmp 18]) none [1,5,5],.mk (some 20) (.bslice 1 [.int .i64 0] [(0,.tmp 19)] 1) none [6]]
def l50r4b : List AOper :=
  [.mk (some 21) (.append 1 (.tmp 13) (.tmp 20)) none [0,7,6],.mk (some 3) (.mv (.tmp 21)) none [8,8,0,1,2,3,4,5,6,7,8]]
def l50r4 : List AOper := l50r4a ++ l50r4b
def l50r5 : List AOper :=
  [.mk (some 11) (.mv (.tmp 4)) none [],.mk (some 12) (.bin .add (.tmp 11) (.const (.int .i64 1))) none [0],.mk (some 4) (.mv (.tmp 12)) none [1,0,1]]
def l50r6 : List AOper :=
  [.mk (some 22) (.mv (.tmp 3)) none [],.mk (some 2) (.mv (.tmp 22)) none [0,0]]
def l50 : AFn :=
  (AFn.mk 23 1 (.seq (.reg l50r0) (.seq (.reg l50r1) (.seq (.seq (.reg l50r2) (.block 0 (.loop (.seq (.seq (.reg l50r3) (.cond (.tmp 10) .skip (.exit 0))) (.seq (.block 1 (.draw l50r4)) (.reg l50r5)))))) (.seq (.reg l50r6) .ret)))) [.tmp 2])
theorem l50_eq : lowFn Try.prog 50 = some l50 := by kernel_rfl
def l52r0 : List AOper :=
  [.mk (some 2) (.mv (.const (.bool false))) none []]
def l52r1 : List AOper :=
  [.mk (some 3) (.mv (.const (.int .i64 0))) none []]
def l52r2 : List AOper :=
  [.mk (some 4) (.mv (.tmp 3)) none [],.mk (some 5) (.mv (.tmp 0)) none [],.mk (some 6) (.len (.tmp 5)) none [1],.mk (some 7) (.bin .lss (.tmp 4) (.tmp 6)) none [0,2]]
def l52r3a : List AOper :=
  [.mk (some 10) (.mv (.tmp 0)) none [],.mk (some 11) (.mv (.tmp 3)) none [],.mk (some 12) (.slice 1 (.tmp 10) none (some (.tmp 11))) none [0,1],.mk (some 13) (.mv (.tmp 0)) none [],.mk (some 14) (.mv (.tmp 3)) none [],.mk (some 15) (.idxA 1 (.tmp 13) (.tmp 14)) none [3,4],.mk (some 16) (.load false 1 (.tmp 15)) none [5]]
def l52r3b : List AOper :=
  [.mk (some 17) (.call 87 [.tmp 12,.tmp 16]) none [2,6],.mk (some 18) (.bin .geq (.tmp 17) (.const (.int .i64 0))) none [7]]
def l52r3 : List AOper := l52r3a ++ l52r3b
def l52r4 : List AOper :=
  [.mk (some 2) (.mv (.const (.bool false))) none []]
def l52r5 : List AOper :=
  [.mk (some 8) (.mv (.tmp 3)) none [],.mk (some 9) (.bin .add (.tmp 8) (.const (.int .i64 1))) none [0],.mk (some 3) (.mv (.tmp 9)) none [1,0,1]]
def l52r6 : List AOper :=
  [.mk (some 2) (.mv (.const (.bool true))) none []]
def l52 : AFn :=
  (AFn.mk 19 1 (.seq (.reg l52r0) (.seq (.seq (.reg l52r1) (.block 0 (.loop (.seq (.seq (.reg l52r2) (.cond (.tmp 7) .skip (.exit 0))) (.seq (.block 1 (.seq (.draw l52r3) (.cond (.tmp 18) (.seq (.reg l52r4) .ret) .skip))) (.reg l52r5)))))) (.seq (.reg l52r6) .ret))) [.tmp 2])
theorem l52_eq : lowFn Try.prog 52 = some l52 := by kernel_rfl
def l53r0 : List AOper :=
  [.mk (some 2) (.alloc [.int .i64 0,.slice none 0 0,.slice none 0 0]) none []]
def l53r1 : List AOper :=
  [.mk (some 4) (.mv (.tmp 0)) none [],.mk (some 5) (.call 88 [.tmp 4]) none [0],.mk (some 3) (.alloc [.int .i64 0,.slice none 0 0,.slice none 0 0]) none [],.mk none (.store 3 (.tmp 3) (.tmp 5)) none [2,1,1,0,1,2]]
def l53r2 : List AOper :=
  [.mk (some 6) (.mv (.tmp 0)) none [],.mk (some 7) (.call 55 [.tmp 6,.const (.int .i64 24)]) none [0]]
def l53r3 : List AOper :=
  [.mk (some 9) (.bin .eql (.tmp 7) (.const (.int .i64 0))) none [],.mk (some 8) (.mv (.tmp 9)) none [0]]
def l53r4 : List AOper :=
  [.mk (some 10) (.mv (.tmp 0)) none [],.mk (some 11) (.bslice 1 [.int .i64 0] [(0,.const (.int .i64 (-1))),(1,.const (.int .i64 60)),(2,.const (.int .i64 61))] 3) none [],.mk (some 12) (.call 54 [.tmp 10,.tmp 11]) none [0,1],.mk (some 13) (.fld 0 (.tmp 3)) none [0,1,2],.mk none (.store 1 (.tmp 13) (.tmp 12)) none [3,2,2,0,1,2]]
def l53r5 : List AOper :=
  [.mk (some 15) (.bin .eql (.tmp 7) (.const (.int .i64 1))) none [],.mk (some 14) (.mv (.tmp 15)) none [0]]
def l53r6 : List AOper :=
  [.mk (some 16) (.fld 2 (.tmp 3)) none [],.mk (some 17) (.load false 1 (.tmp 16)) none [0],.mk (some 18) (.bslice 1 [.int .i64 0] [(0,.const (.int .i64 1))] 1) none [],.mk (some 19) (.append 1 (.tmp 17) (.tmp 18)) none [1,2],.mk (some 20) (.fld 2 (.tmp 3)) none [0,1,2,3],.mk none (.store 1 (.tmp 20) (.tmp 19)) none [4,3,3,0,1,2,3]]
def l53r7 : List AOper :=
  [.mk (some 22) (.bin .eql (.tmp 7) (.const (.int .i64 2))) none [],.mk (some 21) (.mv (.tmp 22)) none [0]]
def l53r8 : List AOper :=
  [.mk (some 23) (.fld 2 (.tmp 3)) none [],.mk (some 24) (.load false 1 (.tmp 23)) none [0],.mk (some 25) (.len (.tmp 24)) none [1],.mk (some 26) (.bin .gtr (.tmp 25) (.const (.int .i64 0))) none [2]]
def l53r9a : List AOper :=
  [.mk (some 27) (.fld 2 (.tmp 3)) none [],.mk (some 28) (.load false 1 (.tmp 27)) none [0],.mk (some 29) (.mv (.tmp 0)) none [],.mk (some 30) (.bslice 1 [.int .i64 0] [(0,.const (.int .i64 61)),(1,.const (.int .i64 (-61))),(2,.const (.int .i64 60))] 3) none [],.mk (some 31) (.call 54 [.tmp 29,.tmp 30]) none [2,3]]
def l53r9b : List AOper :=
  [.mk (some 32) (.idxA 1 (.tmp 28) (.const (.int .i64 0))) none [1,0,1,2,3,4],.mk none (.store 1 (.tmp 32) (.tmp 31)) none [5,4,4,0,1,2,3,4]]
def l53r9 : List AOper := l53r9a ++ l53r9b
def l53r10 : List AOper :=
  [.mk (some 33) (.load true 3 (.tmp 3)) none [],.mk none (.store 3 (.tmp 2) (.tmp 33)) none [0,0]]
def l53 : AFn :=
  (AFn.mk 34 1 (.seq (.reg l53r0) (.seq (.reg l53r1) (.seq (.seq (.reg l53r2) (.block 0 (.seq (.reg l53r3) (.cond (.tmp 8) (.reg l53r4) (.seq (.reg l53r5) (.cond (.tmp 14) (.reg l53r6) (.seq (.reg l53r7) (.cond (.tmp 21) (.seq (.reg l53r8) (.cond (.tmp 26) (.draw l53r9) .skip)) .skip)))))))) (.seq (.reg l53r10) .ret)))) [.cell 2 true 3])
theorem l53_eq : lowFn Try.prog 53 = some l53 := by kernel_rfl
def l54r0 : List AOper :=
  [.mk (some 4) (.mv (.const (.int .i64 0))) none []]
def l54r1 : List AOper :=
  [.mk (some 5) (.mv (.tmp 1)) none [],.mk (some 6) (.mv (.tmp 0)) none [],.mk (some 7) (.mv (.tmp 1)) none [],.mk (some 8) (.len (.tmp 7)) none [2],.mk (some 9) (.call 55 [.tmp 6,.tmp 8]) none [1,3],.mk (some 10) (.idxA 1 (.tmp 5) (.tmp 9)) none [0,4],.mk (some 11) (.load false 1 (.tmp 10)) none [5],.mk (some 4) (.mv (.tmp 11)) none [6,4,0,1,2,3,4,5,6]]
def l54 : AFn :=
  (AFn.mk 12 2 (.seq (.reg l54r0) (.seq (.reg l54r1) .ret)) [.tmp 4])
theorem l54_eq : lowFn Try.prog 54 = some l54 := by kernel_rfl
def l55r0 : List AOper :=
  [.mk (some 4) (.mv (.const (.int .i64 0))) none []]
def l55r1 : List AOper :=
  [.mk (some 7) (.mv (.tmp 0)) none [],.mk (some 8) (.mv (.tmp 0)) none [],.mk (some 9) (.nilck (.tmp 8)) none [1],.mk (some 10) (.fld 1 (.tmp 9)) none [2],.mk (some 11) (.load false 1 (.tmp 10)) none [3],.mk (some 12) (.bin .add (.tmp 11) (.const (.int .i64 1))) none [4],.mk (some 13) (.nilck (.tmp 7)) none [0,0,1,2,3,4,5],.mk (some 14) (.fld 1 (.tmp 13)) none [6,0,1,2,3,4,5],.mk none (.store 1 (.tmp 14) (.tmp 12)) none [7,5,0,1,2,3,4,5]]
def l55r2 : List AOper :=
  [.mk (some 15) (.mv (.tmp 1)) none [],.mk (some 16) (.bin .lss (.tmp 15) (.const (.int .i64 1))) none [0],.mk (some 17) (.mv (.tmp 16)) none [1],.mk (some 18) (.mv (.tmp 0)) (some (17,false)) [2],.mk (some 19) (.nilck (.tmp 18)) (some (17,false)) [3,2],.mk (some 20) (.fld 0 (.tmp 19)) (some (17,false)) [4,2],.mk (some 21) (.load false 1 (.tmp 20)) (some (17,false)) [5,2],.mk (some 22) (.len (.tmp 21)) (some (17,false)) [6,2],.mk (some 23) (.bin .eql (.tmp 22) (.const (.int .i64 0))) (some (17,false)) [7,2],.mk (some 24) (.pick (.tmp 17) (.const (.bool true)) (.tmp 23)) none [2,8]]
def l55r3 : List AOper :=
  [.mk (some 4) (.mv (.const (.int .i64 0))) none []]
def l55r4 : List AOper :=
  [.mk (some 25) (.mv (.tmp 0)) none [],.mk (some 26) (.nilck (.tmp 25)) none [0],.mk (some 27) (.fld 1 (.tmp 26)) none [1],.mk (some 28) (.load false 1 (.tmp 27)) none [2],.mk (some 29) (.bin .sub (.tmp 28) (.const (.int .i64 1))) none [3],.mk (some 5) (.mv (.tmp 29)) none [4,0,1,2,3,4]]
def l55r5 : List AOper :=
  [.mk (some 30) (.mv (.tmp 5)) none [],.mk (some 31) (.mv (.tmp 0)) none [],.mk (some 32) (.nilck (.tmp 31)) none [1],.mk (some 33) (.fld 0 (.tmp 32)) none [2],.mk (some 34) (.load false 1 (.tmp 33)) none [3],.mk (some 35) (.len (.tmp 34)) none [4],.mk (some 36) (.bin .lss (.tmp 30) (.tmp 35)) none [0,5]]
def l55r6 : List AOper :=
  [.mk (some 37) (.mv (.tmp 0)) none [],.mk (some 38) (.nilck (.tmp 37)) none [0],.mk (some 39) (.fld 0 (.tmp 38)) none [1],.mk (some 40) (.load false 1 (.tmp 39)) none [2],.mk (some 41) (.mv (.tmp 5)) none [],.mk (some 42) (.idxA 1 (.tmp 40) (.tmp 41)) none [3,4],.mk (some 43) (.load false 1 (.tmp 42)) none [5],.mk (some 44) (.conv .i64 (.tmp 43)) none [6],.mk (some 45) (.mv (.tmp 1)) none [],.mk (some 46) (.bin .rem (.tmp 44) (.tmp 45)) none [7,8],.mk (some 4) (.mv (.tmp 46)) none [9,0,1,2,3,4,5,6,7,8,9]]
def l55r7a : List AOper :=
  [.mk (some 47) (.mv (.tmp 0)) none [],.mk (some 48) (.nilck (.tmp 47)) none [0],.mk (some 49) (.fld 0 (.tmp 48)) none [1],.mk (some 50) (.load false 1 (.tmp 49)) none [2],.mk (some 51) (.mv (.tmp 5)) none [],.mk (some 52) (.mv (.tmp 0)) none [],.mk (some 53) (.nilck (.tmp 52)) none [5],.mk (some 54) (.fld 0 (.tmp 53)) none [6],.mk (some 55) (.load false 1 (.tmp 54)) none [7],.mk (some 56) (.len (.tmp 55)) none [8],.mk (some 57) (.bin .rem (.tmp 51) (.tmp 56)) none [4,9],.mk (some 58) (.idxA 1 (.tmp 50) (.tmp 57)) none [3,10],.mk (some 59) (.load false 1 (.tmp 58)) none [11],.mk (some 60) (.conv .i64 (.tmp 59)) none [12],.mk (some 61) (.bin .mul (.tmp 60) (.const (.int .i64 131))) none [13],.mk (some 62) (.mv (.tmp 0)) none [],.mk (some 63) (.nilck (.tmp 62)) none [15],.mk (some 64) (.fld 0 (.tmp 63)) none [16],.mk (some 65) (.load false 1 (.tmp 64)) none [17],.mk (some 66) (.mv (.tmp 5)) none [],.mk (some 67) (.bin .mul (.tmp 66) (.const (.int .i64 7))) none [19],.mk (some 68) (.bin .add (.tmp 67) (.const (.int .i64 3))) none [20],.mk (some 69) (.mv (.tmp 0)) none [],.mk (some 70) (.nilck (.tmp 69)) none [22],.mk (some 71) (.fld 0 (.tmp 70)) none [23],.mk (some 72) (.load false 1 (.tmp 71)) none [24],.mk (some 73) (.len (.tmp 72)) none [25],.mk (some 74) (.bin .rem (.tmp 68) (.tmp 73)) none [21,26],.mk (some 75) (.idxA 1 (.tmp 65) (.tmp 74)) none [18,27],.mk (some 76) (.load false 1 (.tmp 75)) none [28],.mk (some 77) (.conv .i64 (.tmp 76)) none [29],.mk (some 78) (.bin .mul (.tmp 77) (.const (.int .i64 1117))) none [30],.mk (some 79) (.bin .add (.tmp 61) (.tmp 78)) none [14,31],.mk (some 80) (.mv (.tmp 5)) none [],.mk (some 81) (.bin .mul (.tmp 80) (.const (.int .i64 29))) none [33],.mk (some 82) (.bin .add (.tmp 79) (.tmp 81)) none [32,34],.mk (some 83) (.mv (.tmp 5)) none [],.mk (some 84) (.mv (.tmp 0)) none [],.mk (some 85) (.nilck (.tmp 84)) none [37],.mk (some 86) (.fld 0 (.tmp 85)) none [38],.mk (some 87) (.load false 1 (.tmp 86)) none [39],.mk (some 88) (.len (.tmp 87)) none [40],.mk (some 89) (.bin .quo (.tmp 83) (.tmp 88)) none [36,41],.mk (some 90) (.bin .mul (.tmp 89) (.const (.int .i64 53))) none [42]]
def l55r7b : List AOper :=
  [.mk (some 91) (.bin .add (.tmp 82) (.tmp 90)) none [35,43],.mk (some 6) (.mv (.tmp 91)) none [44,0,1,2,3,4,5,6,7,8,9,10,11,12,13,14,15,16,17,18,19,20,21,22,23,24,25,26,27,28,29,30,31,32,33,34,35,36,37,38,39,40,41,42,43,44]]
def l55r7 : List AOper := l55r7a ++ l55r7b
def l55r8 : List AOper :=
  [.mk (some 92) (.mv (.tmp 6)) none [],.mk (some 93) (.mv (.tmp 6)) none [],.mk (some 94) (.bin .quo (.tmp 93) (.const (.int .i64 64))) none [1],.mk (some 95) (.bin .xor (.tmp 92) (.tmp 94)) none [0,2],.mk (some 6) (.mv (.tmp 95)) none [3,0,1,2,3]]
def l55r9 : List AOper :=
  [.mk (some 96) (.mv (.tmp 6)) none [],.mk (some 97) (.mv (.tmp 1)) none [],.mk (some 98) (.bin .rem (.tmp 96) (.tmp 97)) none [0,1],.mk (some 4) (.mv (.tmp 98)) none [2,0,1,2]]
def l55 : AFn :=
  (AFn.mk 99 2 (.seq (.reg l55r0) (.seq (.reg l55r1) (.seq (.seq (.reg l55r2) (.cond (.tmp 24) (.seq (.reg l55r3) .ret) .skip)) (.seq (.reg l55r4) (.seq (.seq (.reg l55r5) (.cond (.tmp 36) (.seq (.reg l55r6) .ret) .skip)) (.seq (.draw l55r7) (.seq (.reg l55r8) (.seq (.reg l55r9) .ret)))))))) [.tmp 4])
theorem l55_eq : lowFn Try.prog 55 = some l55 := by kernel_rfl
def l56r0 : List AOper :=
  [.mk (some 2) (.box (.tmp 0)) none [],.mk (some 4) (.mv (.const (.bool false))) none []]
def l56r1 : List AOper :=
  [.mk (some 5) (.load true 3 (.tmp 2)) none [],.mk (some 6) (.call 17 [.tmp 5]) none [0],.mk (some 7) (.mv (.tmp 6)) none [1,1],.mk (some 8) (.mv (.tmp 1)) (some (7,true)) [2],.mk (some 9) (.fld 1 (.tmp 2)) (some (7,true)) [2],.mk (some 10) (.load false 1 (.tmp 9)) (some (7,true)) [4,2],.mk (some 11) (.len (.tmp 10)) (some (7,true)) [5,2],.mk (some 12) (.bin .sub (.tmp 11) (.const (.int .i64 1))) (some (7,true)) [6,2],.mk (some 13) (.call 38 [.tmp 8,.tmp 12]) (some (7,true)) [3,7,2,2],.mk (some 14) (.pick (.tmp 7) (.tmp 13) (.const (.bool false))) none [2,8],.mk (some 4) (.mv (.tmp 14)) none [9,8,0,1,2,3,4,5,6,7,8,9]]
def l56 : AFn :=
  (AFn.mk 15 2 (.seq (.reg l56r0) (.seq (.reg l56r1) .ret)) [.tmp 4])
theorem l56_eq : lowFn Try.prog 56 = some l56 := by kernel_rfl
def l57r0 : List AOper :=
  [.mk (some 1) (.box (.tmp 0)) none [],.mk (some 2) (.mv (.const (.bool false))) none []]
def l57r1 : List AOper :=
  [.mk (some 3) (.fld 0 (.tmp 1)) none [],.mk (some 4) (.load false 1 (.tmp 3)) none [0],.mk (some 5) (.fld 3 (.tmp 1)) none [],.mk (some 6) (.load false 1 (.tmp 5)) none [2],.mk (some 7) (.call 89 [.tmp 4,.tmp 6]) none [1,3],.mk (some 8) (.mv (.tmp 7)) none [4,4],.mk (some 9) (.fld 1 (.tmp 1)) (some (8,true)) [5],.mk (some 10) (.load false 1 (.tmp 9)) (some (8,true)) [6,5],.mk (some 11) (.fld 4 (.tmp 1)) (some (8,true)) [5],.mk (some 12) (.load false 1 (.tmp 11)) (some (8,true)) [8,5],.mk (some 13) (.call 89 [.tmp 10,.tmp 12]) (some (8,true)) [7,9,5,5],.mk (some 14) (.pick (.tmp 8) (.tmp 13) (.const (.bool false))) none [5,10],.mk (some 15) (.mv (.tmp 14)) none [11,10],.mk (some 16) (.fld 2 (.tmp 1)) (some (15,true)) [12],.mk (some 17) (.load false 1 (.tmp 16)) (some (15,true)) [13,12],.mk (some 18) (.call 90 [.tmp 17]) (some (15,true)) [14,12,12],.mk (some 19) (.pick (.tmp 15) (.tmp 18) (.const (.bool false))) none [12,15],.mk (some 2) (.mv (.tmp 19)) none [16,15,0,1,2,3,4,5,6,7,8,9,10,11,12,13,14,15,16]]
def l57 : AFn :=
  (AFn.mk 20 1 (.seq (.reg l57r0) (.seq (.reg l57r1) .ret)) [.tmp 2])
theorem l57_eq : lowFn Try.prog 57 = some l57 := by kernel_rfl
def l58r0 : List AOper :=
  [.mk (some 2) (.box (.tmp 0)) none [],.mk (some 4) (.alloc [.int .i64 0,.int .i64 0,.int .i64 0]) none []]
def l58r1 : List AOper :=
  [.mk (some 8) (.mv (.tmp 1)) none [],.mk (some 5) (.mv (.const (.int .i64 0))) none [],.mk (some 6) (.mv (.tmp 8)) none [0,1,0,1]]
def l58r2 : List AOper :=
  [.mk (some 9) (.mv (.tmp 5)) none [],.mk (some 10) (.mv (.tmp 6)) none [],.mk (some 11) (.fld 2 (.tmp 2)) none [],.mk (some 12) (.load false 1 (.tmp 11)) none [2],.mk (some 13) (.build [.int .i64 0,.int .i64 0,.int .i64 0] [(0,1,.tmp 9),(1,1,.tmp 10),(2,1,.tmp 12)]) none [0,1,3],.mk (some 7) (.alloc [.int .i64 0,.int .i64 0,.int .i64 0]) none [],.mk none (.store 3 (.tmp 7) (.tmp 13)) none [5,4,0,1,2,3,4,5]]
def l58r3 : List AOper :=
  [.mk (some 14) (.fld 2 (.tmp 2)) none [],.mk (some 15) (.load false 1 (.tmp 14)) none [0],.mk (some 16) (.bin .lss (.tmp 15) (.const (.int .i64 0))) none [1]]
def l58r4 : List AOper :=
  [.mk (some 17) (.mv (.tmp 1)) none [],.mk (some 18) (.bin .sub (.tmp 17) (.const (.int .i64 1))) none [0],.mk (some 5) (.mv (.const (.int .i64 (-1)))) none [],.mk (some 6) (.mv (.tmp 18)) none [1,2,0,1,2]]
def l58r5 : List AOper :=
  [.mk (some 19) (.mv (.tmp 6)) none [],.mk (some 20) (.mv (.tmp 5)) none [],.mk (some 21) (.fld 0 (.tmp 7)) none [0],.mk none (.store 1 (.tmp 21) (.tmp 19)) none [2,0,0],.mk (some 22) (.fld 1 (.tmp 7)) none [0,1,2,3],.mk none (.store 1 (.tmp 22) (.tmp 20)) none [4,1,3,0,1,2,3]]
def l58r6 : List AOper :=
  [.mk (some 23) (.fld 3 (.tmp 2)) none [],.mk (some 24) (.load false 1 (.tmp 23)) none [0]]
def l58r7 : List AOper :=
  [.mk (some 25) (.fld 0 (.tmp 2)) none [],.mk (some 26) (.load false 1 (.tmp 25)) none [0],.mk (some 27) (.mv (.tmp 1)) none [],.mk (some 28) (.mv (.tmp 5)) none [],.mk (some 29) (.mv (.tmp 6)) none [],.mk (some 30) (.call 91 [.tmp 26,.tmp 27,.tmp 28,.tmp 29]) none [1,2,3,4],.mk (some 31) (.fld 0 (.tmp 7)) none [0,1,2,3,4,5],.mk none (.store 1 (.tmp 31) (.tmp 30)) none [6,5,5,0,1,2,3,4,5]]
def l58r8 : List AOper :=
  [.mk (some 32) (.fld 4 (.tmp 2)) none [],.mk (some 33) (.load false 1 (.tmp 32)) none [0]]
def l58r9 : List AOper :=
  [.mk (some 34) (.fld 1 (.tmp 2)) none [],.mk (some 35) (.load false 1 (.tmp 34)) none [0],.mk (some 36) (.mv (.tmp 1)) none [],.mk (some 37) (.mv (.tmp 5)) none [],.mk (some 38) (.mv (.tmp 6)) none [],.mk (some 39) (.call 91 [.tmp 35,.tmp 36,.tmp 37,.tmp 38]) none [1,2,3,4],.mk (some 40) (.fld 1 (.tmp 7)) none [0,1,2,3,4,5],.mk none (.store 1 (.tmp 40) (.tmp 39)) none [6,5,5,0,1,2,3,4,5]]
def l58r10 : List AOper :=
  [.mk (some 41) (.load true 3 (.tmp 7)) none [],.mk none (.store 3 (.tmp 4) (.tmp 41)) none [0,0]]
def l58 : AFn :=
  (AFn.mk 42 2 (.seq (.reg l58r0) (.seq (.reg l58r1) (.seq (.reg l58r2) (.seq (.seq (.reg l58r3) (.cond (.tmp 16) (.seq (.reg l58r4) (.reg l58r5)) .skip)) (.seq (.seq (.reg l58r6) (.cond (.tmp 24) (.reg l58r7) .skip)) (.seq (.seq (.reg l58r8) (.cond (.tmp 33) (.reg l58r9) .skip)) (.seq (.reg l58r10) .ret))))))) [.cell 4 true 3])
theorem l58_eq : lowFn Try.prog 58 = some l58 := by kernel_rfl
def l59r0 : List AOper :=
  [.mk (some 1) (.box (.tmp 0)) none [],.mk (some 2) (.alloc [.int .i64 0,.slice none 0 0,.slice none 0 0,.int .i64 0,.int .i64 0,.int .i64 0,.int .i64 0,.slice none 0 0]) none []]
def l59r1 : List AOper :=
  [.mk (some 6) (.load true 3 (.tmp 1)) none [],.mk (some 7) (.build [.int .i64 0,.slice none 0 0,.slice none 0 0,.int .i64 0,.int .i64 0,.int .i64 0,.int .i64 0,.slice none 0 0] [(0,3,.tmp 6)]) none [0],.mk (some 3) (.alloc [.int .i64 0,.slice none 0 0,.slice none 0 0,.int .i64 0,.int .i64 0,.int .i64 0,.int .i64 0,.slice none 0 0]) none [],.mk none (.store 8 (.tmp 3) (.tmp 7)) none [2,1,0,1,2]]
def l59r2 : List AOper :=
  [.mk (some 8) (.fld 1 (.tmp 1)) none [],.mk (some 9) (.load false 1 (.tmp 8)) none [0],.mk (some 10) (.len (.tmp 9)) none [1],.mk (some 11) (.mv (.const (.int .i64 0))) none []]
def l59r3 : List AOper :=
  [.mk (some 12) (.bin .lss (.tmp 11) (.tmp 10)) none []]
def l59r4 : List AOper :=
  [.mk (some 13) (.mv (.tmp 11)) none [],.mk (some 14) (.idxA 1 (.tmp 9) (.tmp 11)) none [],.mk (some 15) (.load false 1 (.tmp 14)) none [1],.mk (some 4) (.mv (.tmp 13)) none [0,0,1,2],.mk (some 5) (.mv (.tmp 15)) none [2,3,0,1,2,3]]
def l59r5a : List AOper :=
  [.mk (some 16) (.fld 7 (.tmp 3)) none [],.mk (some 17) (.load false 1 (.tmp 16)) none [0],.mk (some 18) (.mv (.tmp 5)) none [],.mk (some 19) (.fld 2 (.tmp 1)) none [],.mk (some 20) (.load false 1 (.tmp 19)) none [3],.mk (some 21) (.mv (.tmp 4)) none [],.mk (some 22) (.idxA 1 (.tmp 20) (.tmp 21)) none [4,5],.mk (some 23) (.load false 1 (.tmp 22)) none [6],.mk (some 24) (.build [.int .i64 0,.int .i64 0] [(0,1,.tmp 18),(1,1,.tmp 23)]) none [2,7],.mk (some 25) (.bslice 2 [.int .i64 0,.int .i64 0] [(0,.tmp 24)] 1) none [8]]
def l59r5b : List AOper :=
  [.mk (some 26) (.append 2 (.tmp 17) (.tmp 25)) none [1,9],.mk (some 27) (.fld 7 (.tmp 3)) none [0,1,2,3,4,5,6,7,8,9,10],.mk none (.store 1 (.tmp 27) (.tmp 26)) none [11,10,10,0,1,2,3,4,5,6,7,8,9,10]]
def l59r5 : List AOper := l59r5a ++ l59r5b
def l59r6 : List AOper :=
  [.mk (some 28) (.bin .add (.tmp 11) (.const (.int .i64 1))) none [],.mk (some 11) (.mv (.tmp 28)) none [0]]
def l59r7 : List AOper :=
  [.mk (some 29) (.load true 8 (.tmp 3)) none [],.mk none (.store 8 (.tmp 2) (.tmp 29)) none [0,0]]
def l59 : AFn :=
  (AFn.mk 30 1 (.seq (.reg l59r0) (.seq (.reg l59r1) (.seq (.seq (.reg l59r2) (.block 0 (.loop (.seq (.reg l59r3) (.seq (.cond (.tmp 12) .skip (.exit 0)) (.seq (.block 1 (.seq (.reg l59r4) (.draw l59r5))) (.reg l59r6))))))) (.seq (.reg l59r7) .ret)))) [.cell 2 true 8])
theorem l59_eq : lowFn Try.prog 59 = some l59 := by kernel_rfl
def l60r0 : List AOper :=
  [.mk (some 4) (.alloc [.int .i64 0,.int .i64 0]) none []]
def l60r1 : List AOper :=
  [.mk (some 5) (.mv (.tmp 0)) none [],.mk (some 6) (.bin .lss (.tmp 5) (.const (.int .i64 2))) none [0]]
def l60r2 : List AOper :=
  [.mk (some 7) (.mv (.tmp 0)) none [],.mk (some 8) (.build [.int .i64 0,.int .i64 0] [(0,1,.tmp 7)]) none [0],.mk none (.store 2 (.tmp 4) (.tmp 8)) none [1,0,1]]
def l60r3 : List AOper :=
  [.mk (some 9) (.mv (.tmp 0)) none [],.mk (some 10) (.mv (.tmp 1)) none [],.mk (some 11) (.build [.int .i64 0,.int .i64 0] [(0,1,.tmp 9),(1,1,.tmp 10)]) none [0,1],.mk none (.store 2 (.tmp 4) (.tmp 11)) none [2,0,1,2]]
def l60 : AFn :=
  (AFn.mk 12 2 (.seq (.reg l60r0) (.seq (.seq (.reg l60r1) (.cond (.tmp 6) (.seq (.reg l60r2) .ret) .skip)) (.seq (.reg l60r3) .ret))) [.cell 4 true 2])
theorem l60_eq : lowFn Try.prog 60 = some l60 := by kernel_rfl
def l61r0 : List AOper :=
  [.mk (some 1) (.box (.tmp 0)) none [],.mk (some 2) (.alloc [.int .i64 0,.slice none 0 0,.slice none 0 0]) none []]
def l61r1 : List AOper :=
  [.mk (some 4) (.load true 8 (.tmp 1)) none [],.mk (some 5) (.call 92 [.tmp 4]) none [0],.mk (some 3) (.alloc [.int .i64 0,.slice none 0 0,.slice none 0 0]) none [],.mk none (.store 3 (.tmp 3) (.tmp 5)) none [2,1,1,0,1,2]]
def l61r2 : List AOper :=
  [.mk (some 6) (.load true 3 (.tmp 3)) none [],.mk (some 7) (.call 40 [.tmp 6]) none [0],.mk (some 8) (.bin .eql (.tmp 7) (.const (.int .i64 0))) none [1]]
def l61r3a : List AOper :=
  [.mk (some 9) (.fld 1 (.tmp 3)) none [],.mk (some 10) (.load false 1 (.tmp 9)) none [0],.mk (some 11) (.len (.tmp 10)) none [1],.mk (some 12) (.mkslice 1 [.int .i64 0] (.tmp 11) (.tmp 11)) none [2,2],.mk (some 13) (.fld 0 (.tmp 3)) none [0,1],.mk none (.store 1 (.tmp 13) (.const (.int .i64 0))) none [4,0,1]]
def l61r3b : List AOper :=
  [.mk (some 14) (.fld 2 (.tmp 3)) none [0,1,2,3,4,5],.mk none (.store 1 (.tmp 14) (.tmp 12)) none [6,3,5,0,1,2,3,4,5]]
def l61r3 : List AOper := l61r3a ++ l61r3b
def l61r4 : List AOper :=
  [.mk (some 15) (.load true 3 (.tmp 3)) none [],.mk none (.store 3 (.tmp 2) (.tmp 15)) none [0,0]]
def l61 : AFn :=
  (AFn.mk 16 1 (.seq (.reg l61r0) (.seq (.reg l61r1) (.seq (.seq (.reg l61r2) (.cond (.tmp 8) (.draw l61r3) .skip)) (.seq (.reg l61r4) .ret)))) [.cell 2 true 3])
theorem l61_eq : lowFn Try.prog 61 = some l61 := by kernel_rfl
def l62r0 : List AOper :=
  [.mk (some 2) (.box (.tmp 0)) none [],.mk (some 4) (.mv (.const (.bool false))) none []]
def l62r1 : List AOper :=
  [.mk (some 5) (.mv (.tmp 1)) none [],.mk (some 6) (.fld 1 (.tmp 2)) none [],.mk (some 7) (.load false 1 (.tmp 6)) none [1],.mk (some 8) (.len (.tmp 7)) none [2],.mk (some 9) (.bin .sub (.tmp 8) (.const (.int .i64 1))) none [3],.mk (some 10) (.call 84 [.tmp 5,.const (.int .i64 0),.tmp 9]) none [0,4],.mk (some 4) (.mv (.tmp 10)) none [5,5,0,1,2,3,4,5]]
def l62 : AFn :=
  (AFn.mk 11 2 (.seq (.reg l62r0) (.seq (.reg l62r1) .ret)) [.tmp 4])
theorem l62_eq : lowFn Try.prog 62 = some l62 := by kernel_rfl
def l63r0 : List AOper :=
  [.mk (some 1) (.box (.tmp 0)) none [],.mk (some 2) (.mv (.const (.bool false))) none []]
def l63r1 : List AOper :=
  [.mk (some 3) (.fld 0 (.tmp 1)) none [],.mk (some 4) (.load false 1 (.tmp 3)) none [0],.mk (some 5) (.call 84 [.tmp 4,.const (.int .i64 (-100)),.const (.int .i64 100)]) none [1],.mk (some 6) (.mv (.tmp 5)) none [2,2],.mk (some 7) (.fld 1 (.tmp 1)) (some (6,true)) [3],.mk (some 8) (.load false 1 (.tmp 7)) (some (6,true)) [4,3],.mk (some 9) (.call 84 [.tmp 8,.const (.int .i64 (-100)),.const (.int .i64 100)]) (some (6,true)) [5,3,3],.mk (some 10) (.pick (.tmp 6) (.tmp 9) (.const (.bool false))) none [3,6],.mk (some 11) (.mv (.tmp 10)) none [7,6],.mk (some 12) (.fld 2 (.tmp 1)) (some (11,true)) [8],.mk (some 13) (.load false 1 (.tmp 12)) (some (11,true)) [9,8],.mk (some 14) (.call 84 [.tmp 13,.const (.int .i64 (-200)),.const (.int .i64 200)]) (some (11,true)) [10,8,8],.mk (some 15) (.pick (.tmp 11) (.tmp 14) (.const (.bool false))) none [8,11],.mk (some 16) (.mv (.tmp 15)) none [12,11],.mk (some 17) (.fld 2 (.tmp 1)) (some (16,true)) [13],.mk (some 18) (.load false 1 (.tmp 17)) (some (16,true)) [14,13],.mk (some 19) (.bin .neq (.tmp 18) (.const (.int .i64 0))) (some (16,true)) [15,13],.mk (some 20) (.pick (.tmp 16) (.tmp 19) (.const (.bool false))) none [13,16],.mk (some 21) (.mv (.tmp 20)) none [17,13],.mk (some 22) (.fld 3 (.tmp 1)) (some (21,true)) [18],.mk (some 23) (.load false 1 (.tmp 22)) (some (21,true)) [19,18],.mk (some 24) (.mv (.tmp 23)) (some (21,true)) [20,18,18],.mk (some 25) (.fld 0 (.tmp 1)) (some (24,false)) [21],.mk (some 26) (.load false 1 (.tmp 25)) (some (24,false)) [22,21],.mk (some 27) (.bin .eql (.tmp 26) (.const (.int .i64 0))) (some (24,false)) [23,21],.mk (some 28) (.pick (.tmp 24) (.const (.bool true)) (.tmp 27)) (some (21,true)) [21,24,18],.mk (some 29) (.pick (.tmp 21) (.tmp 28) (.const (.bool false))) none [18,25],.mk (some 30) (.mv (.tmp 29)) none [26,21],.mk (some 31) (.fld 4 (.tmp 1)) (some (30,true)) [27],.mk (some 32) (.load false 1 (.tmp 31)) (some (30,true)) [28,27],.mk (some 33) (.mv (.tmp 32)) (some (30,true)) [29,27,27],.mk (some 34) (.fld 1 (.tmp 1)) (some (33,false)) [30],.mk (some 35) (.load false 1 (.tmp 34)) (some (33,false)) [31,30],.mk (some 36) (.bin .eql (.tmp 35) (.const (.int .i64 0))) (some (33,false)) [32,30],.mk (some 37) (.pick (.tmp 33) (.const (.bool true)) (.tmp 36)) (some (30,true)) [30,33,27],.mk (some 38) (.pick (.tmp 30) (.tmp 37) (.const (.bool false))) none [27,34],.mk (some 2) (.mv (.tmp 38)) none [35,30,0,1,2,3,4,5,6,7,8,9,10,11,12,13,14,15,16,17,18,19,20,21,22,23,24,25,26,27,28,29,30,31,32,33,34,35]]
def l63 : AFn :=
  (AFn.mk 39 1 (.seq (.reg l63r0) (.seq (.reg l63r1) .ret)) [.tmp 2])
theorem l63_eq : lowFn Try.prog 63 = some l63 := by kernel_rfl
def l64r0 : List AOper :=
  [.mk (some 1) (.box (.tmp 0)) none [],.mk (some 2) (.alloc [.int .i64 0,.slice none 0 0,.slice none 0 0]) none [],.mk (some 3) (.mv (.const (.bool false))) none []]
def l64r1 : List AOper :=
  [.mk (some 4) (.load true 3 (.tmp 1)) none [],.mk (some 5) (.call 48 [.tmp 4]) none [0],.mk (some 6) (.un .not (.tmp 5)) none [1]]
def l64r2 : List AOper :=
  [.mk (some 7) (.build [.int .i64 0,.slice none 0 0,.slice none 0 0] []) none [],.mk none (.store 3 (.tmp 2) (.tmp 7)) none [0,0],.mk (some 3) (.mv (.const (.bool false))) none [1,0,1]]
def l64r3 : List AOper :=
  [.mk (some 8) (.load true 3 (.tmp 1)) none [],.mk (some 9) (.call 70 [.tmp 8]) none [0],.mk none (.store 3 (.tmp 2) (.tmp 9)) none [1,1,0,1],.mk (some 3) (.mv (.const (.bool true))) none [2,0,1,2]]
def l64 : AFn :=
  (AFn.mk 10 1 (.seq (.reg l64r0) (.seq (.seq (.reg l64r1) (.cond (.tmp 6) (.seq (.reg l64r2) .ret) .skip)) (.seq (.reg l64r3) .ret))) [.cell 2 true 3,.tmp 3])
theorem l64_eq : lowFn Try.prog 64 = some l64 := by kernel_rfl
def l65r0 : List AOper :=
  [.mk (some 3) (.box (.tmp 0)) none [],.mk (some 5) (.box (.tmp 2)) none [],.mk (some 6) (.alloc [.int .i64 0,.slice none 0 0,.slice none 0 0]) none []]
def l65r1 : List AOper :=
  [.mk (some 10) (.load true 3 (.tmp 3)) none [],.mk (some 11) (.call 70 [.tmp 10]) none [0],.mk (some 7) (.alloc [.int .i64 0,.slice none 0 0,.slice none 0 0]) none [],.mk none (.store 3 (.tmp 7) (.tmp 11)) none [2,1,1,0,1,2]]
def l65r2a : List AOper :=
  [.mk (some 12) (.fld 1 (.tmp 3)) none [],.mk (some 13) (.load false 1 (.tmp 12)) none [0],.mk (some 14) (.mv (.tmp 1)) none [],.mk (some 15) (.idxA 1 (.tmp 13) (.tmp 14)) none [1,2],.mk (some 16) (.load false 1 (.tmp 15)) none [3],.mk (some 17) (.load true 5 (.tmp 5)) none [],.mk (some 18) (.call 94 [.tmp 16,.tmp 17]) none [4,5],.mk (some 19) (.call 93 [.tmp 18]) none [6,6],.mk (some 8) (.alloc [.int .i64 0,.int .i64 0,.int .i64 0]) none []]
def l65r2b : List AOper :=
  [.mk none (.store 3 (.tmp 8) (.tmp 19)) none [8,7,7,0,1,2,3,4,5,6,7,8]]
def l65r2 : List AOper := l65r2a ++ l65r2b
def l65r3 : List AOper :=
  [.mk (some 20) (.load true 3 (.tmp 8)) none [],.mk (some 21) (.call 95 [.tmp 20]) none [0],.mk (some 9) (.mv (.tmp 21)) none [1,1,0,1]]
def l65r4 : List AOper :=
  [.mk (some 22) (.fld 1 (.tmp 7)) none [],.mk (some 23) (.load false 1 (.tmp 22)) none [0],.mk (some 24) (.mv (.tmp 1)) none [],.mk (some 25) (.mv (.tmp 9)) none [],.mk (some 26) (.len (.tmp 25)) none [3],.mk (some 27) (.idxA 1 (.tmp 23) (.tmp 24)) none [1,2,0,1,2,3,4],.mk none (.store 1 (.tmp 27) (.tmp 26)) none [5,4,0,1,2,3,4]]
def l65r5a : List AOper :=
  [.mk (some 28) (.fld 0 (.tmp 3)) none [],.mk (some 29) (.load false 1 (.tmp 28)) none [0],.mk (some 30) (.fld 0 (.tmp 8)) none [],.mk (some 31) (.load false 1 (.tmp 30)) none [2],.mk (some 32) (.fld 2 (.tmp 3)) none [],.mk (some 33) (.load false 1 (.tmp 32)) none [4],.mk (some 34) (.mv (.tmp 1)) none [],.mk (some 35) (.idxA 1 (.tmp 33) (.tmp 34)) none [5,6],.mk (some 36) (.load false 1 (.tmp 35)) none [7],.mk (some 37) (.bin .mul (.tmp 31) (.tmp 36)) none [3,8]]
def l65r5b : List AOper :=
  [.mk (some 38) (.bin .add (.tmp 29) (.tmp 37)) none [1,9],.mk (some 39) (.fld 0 (.tmp 7)) none [0,1,2,3,4,5,6,7,8,9,10],.mk none (.store 1 (.tmp 39) (.tmp 38)) none [11,10,0,1,2,3,4,5,6,7,8,9,10]]
def l65r5 : List AOper := l65r5a ++ l65r5b
def l65r6a : List AOper :=
  [.mk (some 40) (.fld 2 (.tmp 7)) none [],.mk (some 41) (.load false 1 (.tmp 40)) none [0],.mk (some 42) (.mv (.tmp 1)) none [],.mk (some 43) (.fld 2 (.tmp 8)) none [],.mk (some 44) (.load false 1 (.tmp 43)) none [3],.mk (some 45) (.fld 2 (.tmp 3)) none [],.mk (some 46) (.load false 1 (.tmp 45)) none [5],.mk (some 47) (.mv (.tmp 1)) none [],.mk (some 48) (.idxA 1 (.tmp 46) (.tmp 47)) none [6,7],.mk (some 49) (.load false 1 (.tmp 48)) none [8],.mk (some 50) (.bin .mul (.tmp 44) (.tmp 49)) none [4,9]]
def l65r6b : List AOper :=
  [.mk (some 51) (.idxA 1 (.tmp 41) (.tmp 42)) none [1,2,0,1,2,3,4,5,6,7,8,9,10],.mk none (.store 1 (.tmp 51) (.tmp 50)) none [11,10,0,1,2,3,4,5,6,7,8,9,10]]
def l65r6 : List AOper := l65r6a ++ l65r6b
def l65r7 : List AOper :=
  [.mk (some 52) (.mv (.tmp 9)) none [],.mk (some 53) (.len (.tmp 52)) none [0],.mk (some 54) (.bin .leq (.tmp 53) (.const (.int .i64 1))) none [1]]
def l65r8 : List AOper :=
  [.mk (some 55) (.fld 2 (.tmp 7)) none [],.mk (some 56) (.load false 1 (.tmp 55)) none [0],.mk (some 57) (.mv (.tmp 1)) none [],.mk (some 58) (.idxA 1 (.tmp 56) (.tmp 57)) none [1,2,0,1,2],.mk none (.store 1 (.tmp 58) (.const (.int .i64 0))) none [3,0,1,2]]
def l65r9 : List AOper :=
  [.mk (some 59) (.load true 3 (.tmp 7)) none [],.mk (some 60) (.call 96 [.tmp 59]) none [0],.mk none (.store 3 (.tmp 6) (.tmp 60)) none [1,1,0,1]]
def l65 : AFn :=
  (AFn.mk 61 3 (.seq (.reg l65r0) (.seq (.reg l65r1) (.seq (.draw l65r2) (.seq (.reg l65r3) (.seq (.reg l65r4) (.seq (.draw l65r5) (.seq (.draw l65r6) (.seq (.seq (.reg l65r7) (.cond (.tmp 54) (.reg l65r8) .skip)) (.seq (.reg l65r9) .ret))))))))) [.cell 6 true 3])
theorem l65_eq : lowFn Try.prog 65 = some l65 := by kernel_rfl
def l66r0 : List AOper :=
  [.mk (some 2) (.box (.tmp 0)) none [],.mk (some 3) (.box (.tmp 1)) none [],.mk (some 4) (.mv (.const (.int .i64 0))) none []]
def l66r1a : List AOper :=
  [.mk (some 5) (.fld 0 (.tmp 2)) none [],.mk (some 6) (.load false 1 (.tmp 5)) none [0],.mk (some 7) (.load true 4 (.tmp 3)) none [],.mk (some 8) (.fld 2 (.tmp 2)) none [],.mk (some 9) (.load false 1 (.tmp 8)) none [3],.mk (some 10) (.call 97 [.tmp 7,.tmp 9]) none [2,4]]
def l66r1b : List AOper :=
  [.mk (some 11) (.bin .add (.tmp 6) (.tmp 10)) none [1,5],.mk (some 4) (.mv (.tmp 11)) none [6,5,0,1,2,3,4,5,6]]
def l66r1 : List AOper := l66r1a ++ l66r1b
def l66 : AFn :=
  (AFn.mk 12 2 (.seq (.reg l66r0) (.seq (.draw l66r1) .ret)) [.tmp 4])
theorem l66_eq : lowFn Try.prog 66 = some l66 := by kernel_rfl
def l67r0 : List AOper :=
  [.mk (some 4) (.alloc [.int .i64 0,.int .i64 0,.int .i64 0,.int .i64 0]) none []]
def l67r1 : List AOper :=
  [.mk (some 5) (.alloc [.int .i64 0,.int .i64 0,.int .i64 0,.int .i64 0]) none []]
def l67r2 : List AOper :=
  [.mk (some 7) (.mv (.tmp 0)) none [],.mk (some 8) (.len (.tmp 7)) none [0],.mk (some 9) (.bin .sub (.tmp 8) (.const (.int .i64 1))) none [1],.mk (some 6) (.mv (.tmp 9)) none [2,0,1,2]]
def l67r3 : List AOper :=
  [.mk (some 10) (.mv (.tmp 6)) none [],.mk (some 11) (.bin .geq (.tmp 10) (.const (.int .i64 0))) none [0]]
def l67r4 : List AOper :=
  [.mk (some 14) (.mv (.tmp 6)) none [],.mk (some 15) (.mv (.tmp 1)) none [],.mk (some 16) (.mv (.tmp 0)) none [],.mk (some 17) (.mv (.tmp 6)) none [],.mk (some 18) (.idxA 1 (.tmp 16) (.tmp 17)) none [2,3],.mk (some 19) (.load false 1 (.tmp 18)) none [4],.mk (some 20) (.bin .rem (.tmp 15) (.tmp 19)) none [1,5],.mk (some 21) (.idxP 1 4 (.tmp 5) (.tmp 14)) none [0,0,1,2,3,4,5,6],.mk none (.store 1 (.tmp 21) (.tmp 20)) none [7,6,0,1,2,3,4,5,6]]
def l67r5 : List AOper :=
  [.mk (some 22) (.mv (.tmp 1)) none [],.mk (some 23) (.mv (.tmp 0)) none [],.mk (some 24) (.mv (.tmp 6)) none [],.mk (some 25) (.idxA 1 (.tmp 23) (.tmp 24)) none [1,2],.mk (some 26) (.load false 1 (.tmp 25)) none [3],.mk (some 27) (.bin .quo (.tmp 22) (.tmp 26)) none [0,4],.mk (some 1) (.mv (.tmp 27)) none [5,0,1,2,3,4,5]]
def l67r6 : List AOper :=
  [.mk (some 12) (.mv (.tmp 6)) none [],.mk (some 13) (.bin .sub (.tmp 12) (.const (.int .i64 1))) none [0],.mk (some 6) (.mv (.tmp 13)) none [1,0,1]]
def l67r7 : List AOper :=
  [.mk (some 28) (.load true 4 (.tmp 5)) none [],.mk none (.store 4 (.tmp 4) (.tmp 28)) none [0,0]]
def l67 : AFn :=
  (AFn.mk 29 2 (.seq (.reg l67r0) (.seq (.reg l67r1) (.seq (.seq (.reg l67r2) (.block 0 (.loop (.seq (.seq (.reg l67r3) (.cond (.tmp 11) .skip (.exit 0))) (.seq (.block 1 (.seq (.reg l67r4) (.reg l67r5))) (.reg l67r6)))))) (.seq (.reg l67r7) .ret)))) [.cell 4 true 4])
theorem l67_eq : lowFn Try.prog 67 = some l67 := by kernel_rfl
def l68r0 : List AOper :=
  [.mk (some 4) (.mv (.const (.slice none 0 0))) none []]
def l68r1 : List AOper :=
  [.mk (some 5) (.mv (.const (.slice none 0 0))) none []]
def l68r2 : List AOper :=
  [.mk (some 8) (.mv (.tmp 0)) none [],.mk (some 9) (.raw (Op.range 58 (.tmp 8))) none [0]]
def l68r3 : List AOper :=
  [.mk (some 10) (.raw (Op.next (.tmp 9) false)) none [],.mk (some 11) (.extract (.tmp 10) 0) none [0]]
def l68r4 : List AOper :=
  [.mk (some 12) (.raw (Op.entry (.tmp 9))) none [],.mk (some 13) (.extract (.tmp 12) 0) none [0],.mk (some 14) (.extract (.tmp 12) 1) none [0],.mk (some 6) (.mv (.tmp 13)) none [1,0,1],.mk (some 7) (.mv (.tmp 14)) none [2,3,0,1,2,3]]
def l68r5 : List AOper :=
  [.mk (some 15) (.mv (.tmp 7)) none [],.mk (some 16) (.mv (.tmp 1)) none [],.mk (some 17) (.bin .geq (.tmp 15) (.tmp 16)) none [0,1]]
def l68r6 : List AOper :=
  [.mk (some 18) (.mv (.tmp 5)) none [],.mk (some 19) (.mv (.tmp 6)) none [],.mk (some 20) (.bslice 1 [.int .i64 0] [(0,.tmp 19)] 1) none [1],.mk (some 21) (.append 1 (.tmp 18) (.tmp 20)) none [0,2],.mk (some 5) (.mv (.tmp 21)) none [3,3,0,1,2,3]]
def l68r7 : List AOper :=
  [.mk (some 22) (.mv (.tmp 5)) none [],.mk (some 23) (.call 98 [.tmp 22]) none [0]]
def l68r8 : List AOper :=
  [.mk (some 24) (.mv (.tmp 5)) none [],.mk (some 4) (.mv (.tmp 24)) none [0,0]]
def l68 : AFn :=
  (AFn.mk 25 2 (.seq (.reg l68r0) (.seq (.reg l68r1) (.seq (.seq (.reg l68r2) (.block 0 (.loop (.seq (.reg l68r3) (.seq (.cond (.tmp 11) .skip (.exit 0)) (.block 1 (.seq (.reg l68r4) (.seq (.reg l68r5) (.cond (.tmp 17) (.reg l68r6) .skip))))))))) (.seq (.reg l68r7) (.seq (.reg l68r8) .ret))))) [.tmp 4])
theorem l68_eq : lowFn Try.prog 68 = some l68 := by kernel_rfl
def l69r0 : List AOper :=
  [.mk (some 2) (.alloc [.int .i64 0,.int .i64 0,.int .i64 0,.bool false,.bool false]) none []]
def l69r1 : List AOper :=
  [.mk (some 4) (.mv (.tmp 0)) none [],.mk (some 5) (.bslice 1 [.int .i64 0] [(0,.const (.int .i64 1)),(1,.const (.int .i64 2)),(2,.const (.int .i64 (-1))),(3,.const (.int .i64 3)),(4,.const (.int .i64 (-2))),(5,.const (.int .i64 1)),(6,.const (.int .i64 5))] 7) none [],.mk (some 6) (.call 54 [.tmp 4,.tmp 5]) none [0,1],.mk (some 7) (.build [.int .i64 0,.int .i64 0,.int .i64 0,.bool false,.bool false] [(2,1,.tmp 6)]) none [2],.mk (some 3) (.alloc [.int .i64 0,.int .i64 0,.int .i64 0,.bool false,.bool false]) none [],.mk none (.store 5 (.tmp 3) (.tmp 7)) none [4,3,2,0,1,2,3,4]]
def l69r2 : List AOper :=
  [.mk (some 8) (.mv (.tmp 0)) none [],.mk (some 9) (.call 55 [.tmp 8,.const (.int .i64 2)]) none [0],.mk (some 10) (.bin .eql (.tmp 9) (.const (.int .i64 0))) none [1]]
def l69r3 : List AOper :=
  [.mk (some 11) (.fld 3 (.tmp 3)) none [],.mk none (.store 1 (.tmp 11) (.const (.bool true))) none [0]]
def l69r4 : List AOper :=
  [.mk (some 12) (.mv (.tmp 0)) none [],.mk (some 13) (.mv (.tmp 0)) none [],.mk (some 14) (.call 55 [.tmp 13,.const (.int .i64 12)]) none [1],.mk (some 15) (.bslice 1 [.int .i64 0] [(0,.const (.int .i64 1)),(1,.const (.int .i64 2)),(2,.const (.int .i64 0)),(3,.const (.int .i64 (-1))),(4,.const (.int .i64 (-3))),(5,.tmp 14),(6,.const (.int .i64 30)),(7,.const (.int .i64 (-30)))] 8) none [2],.mk (some 16) (.call 54 [.tmp 12,.tmp 15]) none [0,3,2],.mk (some 17) (.fld 0 (.tmp 3)) none [0,1,2,3,4],.mk none (.store 1 (.tmp 17) (.tmp 16)) none [5,4,4,0,1,2,3,4]]
def l69r5 : List AOper :=
  [.mk (some 18) (.mv (.tmp 0)) none [],.mk (some 19) (.call 55 [.tmp 18,.const (.int .i64 2)]) none [0],.mk (some 20) (.bin .eql (.tmp 19) (.const (.int .i64 0))) none [1]]
def l69r6 : List AOper :=
  [.mk (some 21) (.fld 4 (.tmp 3)) none [],.mk none (.store 1 (.tmp 21) (.const (.bool true))) none [0]]
def l69r7 : List AOper :=
  [.mk (some 22) (.mv (.tmp 0)) none [],.mk (some 23) (.mv (.tmp 0)) none [],.mk (some 24) (.call 55 [.tmp 23,.const (.int .i64 12)]) none [1],.mk (some 25) (.bslice 1 [.int .i64 0] [(0,.const (.int .i64 4)),(1,.const (.int .i64 3)),(2,.const (.int .i64 (-1))),(3,.const (.int .i64 (-2))),(4,.const (.int .i64 0)),(5,.tmp 24),(6,.const (.int .i64 30)),(7,.const (.int .i64 (-30)))] 8) none [2],.mk (some 26) (.call 54 [.tmp 22,.tmp 25]) none [0,3,2],.mk (some 27) (.fld 1 (.tmp 3)) none [0,1,2,3,4],.mk none (.store 1 (.tmp 27) (.tmp 26)) none [5,4,4,0,1,2,3,4]]
def l69r8 : List AOper :=
  [.mk (some 28) (.mv (.tmp 0)) none [],.mk (some 29) (.call 55 [.tmp 28,.const (.int .i64 24)]) none [0]]
def l69r9 : List AOper :=
  [.mk (some 31) (.bin .eql (.tmp 29) (.const (.int .i64 0))) none [],.mk (some 30) (.mv (.tmp 31)) none [0]]
def l69r10 : List AOper :=
  [.mk (some 32) (.mv (.tmp 0)) none [],.mk (some 33) (.bslice 1 [.int .i64 0] [(0,.const (.int .i64 0)),(1,.const (.int .i64 201))] 2) none [],.mk (some 34) (.call 54 [.tmp 32,.tmp 33]) none [0,1],.mk (some 35) (.fld 2 (.tmp 3)) none [0,1,2],.mk none (.store 1 (.tmp 35) (.tmp 34)) none [3,2,2,0,1,2]]
def l69r11 : List AOper :=
  [.mk (some 37) (.bin .eql (.tmp 29) (.const (.int .i64 1))) none [],.mk (some 36) (.mv (.tmp 37)) none [0]]
def l69r12 : List AOper :=
  [.mk (some 38) (.fld 0 (.tmp 3)) none [],.mk none (.store 1 (.tmp 38) (.const (.int .i64 101))) none [0]]
def l69r13 : List AOper :=
  [.mk (some 40) (.bin .eql (.tmp 29) (.const (.int .i64 2))) none [],.mk (some 39) (.mv (.tmp 40)) none [0]]
def l69r14 : List AOper :=
  [.mk (some 41) (.mv (.tmp 0)) none [],.mk (some 42) (.bslice 1 [.int .i64 0] [(0,.const (.int .i64 1)),(1,.const (.int .i64 (-101)))] 2) none [],.mk (some 43) (.call 54 [.tmp 41,.tmp 42]) none [0,1],.mk (some 44) (.fld 1 (.tmp 3)) none [0,1,2],.mk none (.store 1 (.tmp 44) (.tmp 43)) none [3,2,2,0,1,2]]
def l69r15 : List AOper :=
  [.mk (some 45) (.load true 5 (.tmp 3)) none [],.mk none (.store 5 (.tmp 2) (.tmp 45)) none [0,0]]
def l69 : AFn :=
  (AFn.mk 46 1 (.seq (.reg l69r0) (.seq (.reg l69r1) (.seq (.seq (.reg l69r2) (.cond (.tmp 10) (.seq (.reg l69r3) (.reg l69r4)) .skip)) (.seq (.seq (.reg l69r5) (.cond (.tmp 20) (.seq (.reg l69r6) (.reg l69r7)) .skip)) (.seq (.seq (.reg l69r8) (.block 0 (.seq (.reg l69r9) (.cond (.tmp 30) (.reg l69r10) (.seq (.reg l69r11) (.cond (.tmp 36) (.reg l69r12) (.seq (.reg l69r13) (.cond (.tmp 39) (.reg l69r14) .skip)))))))) (.seq (.reg l69r15) .ret)))))) [.cell 2 true 5])
theorem l69_eq : lowFn Try.prog 69 = some l69 := by kernel_rfl
def l70r0 : List AOper :=
  [.mk (some 1) (.box (.tmp 0)) none [],.mk (some 2) (.alloc [.int .i64 0,.slice none 0 0,.slice none 0 0]) none []]
def l70r1a : List AOper :=
  [.mk (some 3) (.fld 0 (.tmp 1)) none [],.mk (some 4) (.load false 1 (.tmp 3)) none [0],.mk (some 5) (.fld 1 (.tmp 1)) none [],.mk (some 6) (.load false 1 (.tmp 5)) none [2],.mk (some 7) (.call 99 [.tmp 6]) none [3],.mk (some 8) (.fld 2 (.tmp 1)) none [],.mk (some 9) (.load false 1 (.tmp 8)) none [5],.mk (some 10) (.call 99 [.tmp 9]) none [6,4]]
def l70r1b : List AOper :=
  [.mk (some 11) (.build [.int .i64 0,.slice none 0 0,.slice none 0 0] [(0,1,.tmp 4),(1,1,.tmp 7),(2,1,.tmp 10)]) none [1,4,7],.mk none (.store 3 (.tmp 2) (.tmp 11)) none [8,7,0,1,2,3,4,5,6,7,8]]
def l70r1 : List AOper := l70r1a ++ l70r1b
def l70 : AFn :=
  (AFn.mk 12 1 (.seq (.reg l70r0) (.seq (.draw l70r1) .ret)) [.cell 2 true 3])
theorem l70_eq : lowFn Try.prog 70 = some l70 := by kernel_rfl
def l75r0 : List AOper :=
  [.mk (some 2) (.mv (.const (.int .i64 0))) none []]
def l75r1 : List AOper :=
  [.mk (some 3) (.mv (.const (.int .i64 1))) none []]
def l75r2 : List AOper :=
  [.mk (some 4) (.mv (.const (.int .i64 0))) none []]
def l75r3 : List AOper :=
  [.mk (some 5) (.mv (.tmp 4)) none [],.mk (some 6) (.mv (.tmp 0)) none [],.mk (some 7) (.len (.tmp 6)) none [1],.mk (some 8) (.bin .lss (.tmp 5) (.tmp 7)) none [0,2]]
def l75r4 : List AOper :=
  [.mk (some 11) (.mv (.tmp 3)) none [],.mk (some 12) (.mv (.tmp 0)) none [],.mk (some 13) (.mv (.tmp 4)) none [],.mk (some 14) (.idxA 1 (.tmp 12) (.tmp 13)) none [1,2],.mk (some 15) (.load false 1 (.tmp 14)) none [3],.mk (some 16) (.bin .mul (.tmp 11) (.tmp 15)) none [0,4],.mk (some 3) (.mv (.tmp 16)) none [5,0,1,2,3,4,5]]
def l75r5 : List AOper :=
  [.mk (some 9) (.mv (.tmp 4)) none [],.mk (some 10) (.bin .add (.tmp 9) (.const (.int .i64 1))) none [0],.mk (some 4) (.mv (.tmp 10)) none [1,0,1]]
def l75r6 : List AOper :=
  [.mk (some 17) (.mv (.tmp 3)) none [],.mk (some 2) (.mv (.tmp 17)) none [0,0]]
def l75 : AFn :=
  (AFn.mk 18 1 (.seq (.reg l75r0) (.seq (.reg l75r1) (.seq (.seq (.reg l75r2) (.block 0 (.loop (.seq (.seq (.reg l75r3) (.cond (.tmp 8) .skip (.exit 0))) (.seq (.block 1 (.reg l75r4)) (.reg l75r5)))))) (.seq (.reg l75r6) .ret)))) [.tmp 2])
theorem l75_eq : lowFn Try.prog 75 = some l75 := by kernel_rfl
def l76r0 : List AOper :=
  [.mk (some 2) (.mv (.const (.int .i64 0))) none []]
def l76r1 : List AOper :=
  [.mk (some 3) (.mv (.const (.int .i64 1))) none []]
def l76r2 : List AOper :=
  [.mk (some 6) (.mv (.tmp 0)) none [],.mk (some 7) (.len (.tmp 6)) none [0],.mk (some 8) (.mv (.const (.int .i64 0))) none []]
def l76r3 : List AOper :=
  [.mk (some 9) (.bin .lss (.tmp 8) (.tmp 7)) none []]
def l76r4 : List AOper :=
  [.mk (some 10) (.idxA 1 (.tmp 6) (.tmp 8)) none [],.mk (some 11) (.load false 1 (.tmp 10)) none [0],.mk (some 5) (.mv (.tmp 11)) none [1,0,1]]
def l76r5 : List AOper :=
  [.mk (some 12) (.mv (.tmp 3)) none [],.mk (some 13) (.mv (.tmp 5)) none [],.mk (some 14) (.bin .mul (.tmp 12) (.tmp 13)) none [0,1],.mk (some 3) (.mv (.tmp 14)) none [2,0,1,2]]
def l76r6 : List AOper :=
  [.mk (some 15) (.bin .add (.tmp 8) (.const (.int .i64 1))) none [],.mk (some 8) (.mv (.tmp 15)) none [0]]
def l76r7 : List AOper :=
  [.mk (some 16) (.mv (.tmp 3)) none [],.mk (some 2) (.mv (.tmp 16)) none [0,0]]
def l76 : AFn :=
  (AFn.mk 17 1 (.seq (.reg l76r0) (.seq (.reg l76r1) (.seq (.seq (.reg l76r2) (.block 0 (.loop (.seq (.reg l76r3) (.seq (.cond (.tmp 9) .skip (.exit 0)) (.seq (.block 1 (.seq (.reg l76r4) (.reg l76r5))) (.reg l76r6))))))) (.seq (.reg l76r7) .ret)))) [.tmp 2])
theorem l76_eq : lowFn Try.prog 76 = some l76 := by kernel_rfl
def l77r0 : List AOper :=
  [.mk (some 4) (.mv (.const (.bool false))) none []]
def l77r1 : List AOper :=
  [.mk (some 5) (.mv (.tmp 1)) none [],.mk (some 6) (.un .neg (.tmp 5)) none [0],.mk (some 7) (.mv (.tmp 0)) none [],.mk (some 8) (.bin .leq (.tmp 6) (.tmp 7)) none [1,2],.mk (some 9) (.mv (.tmp 8)) none [3],.mk (some 10) (.mv (.tmp 0)) (some (9,true)) [4],.mk (some 11) (.mv (.tmp 1)) (some (9,true)) [4],.mk (some 12) (.bin .leq (.tmp 10) (.tmp 11)) (some (9,true)) [5,6,4],.mk (some 13) (.pick (.tmp 9) (.tmp 12) (.const (.bool false))) none [4,7],.mk (some 4) (.mv (.tmp 13)) none [8,4,0,1,2,3,4,5,6,7,8]]
def l77 : AFn :=
  (AFn.mk 14 2 (.seq (.reg l77r0) (.seq (.reg l77r1) .ret)) [.tmp 4])
theorem l77_eq : lowFn Try.prog 77 = some l77 := by kernel_rfl
def l78r0 : List AOper :=
  [.mk (some 6) (.mv (.tmp 1)) none [],.mk (some 7) (.len (.tmp 6)) none [0],.mk (some 8) (.mv (.const (.int .i64 0))) none []]
def l78r1 : List AOper :=
  [.mk (some 9) (.bin .lss (.tmp 8) (.tmp 7)) none []]
def l78r2 : List AOper :=
  [.mk (some 10) (.idxA 1 (.tmp 6) (.tmp 8)) none [],.mk (some 11) (.load false 1 (.tmp 10)) none [0],.mk (some 5) (.mv (.tmp 11)) none [1,0,1]]
def l78r3 : List AOper :=
  [.mk (some 12) (.mv (.tmp 0)) none [],.mk (some 13) (.mv (.tmp 5)) none [],.mk (some 14) (.raw (Op.lookup 58 (.tmp 12) (.tmp 13) false)) none [0,1],.mk (some 15) (.bin .add (.tmp 14) (.const (.int .i64 1))) none [2],.mk none (.raw (Op.mapUpdate 58 (.tmp 12) (.tmp 13) (.tmp 15))) none [0,1,3,0,1,2,3]]
def l78r4 : List AOper :=
  [.mk (some 16) (.bin .add (.tmp 8) (.const (.int .i64 1))) none [],.mk (some 8) (.mv (.tmp 16)) none [0]]
def l78 : AFn :=
  (AFn.mk 17 2 (.seq (.reg l78r0) (.block 0 (.loop (.seq (.reg l78r1) (.seq (.cond (.tmp 9) .skip (.exit 0)) (.seq (.block 1 (.seq (.reg l78r2) (.reg l78r3))) (.reg l78r4))))))) [])
theorem l78_eq : lowFn Try.prog 78 = some l78 := by kernel_rfl
def l82r0 : List AOper :=
  [.mk (some 2) (.mv (.const (.bool false))) none []]
def l82r1 : List AOper :=
  [.mk (some 3) (.mv (.tmp 0)) none [],.mk (some 4) (.len (.tmp 3)) none [0],.mk (some 5) (.bin .leq (.tmp 4) (.const (.int .i64 4))) none [1],.mk (some 6) (.mv (.tmp 5)) none [2],.mk (some 7) (.mv (.tmp 0)) (some (6,true)) [3],.mk (some 8) (.call 83 [.tmp 7,.const (.int .i64 0),.const (.int .i64 60)]) (some (6,true)) [4,3,3],.mk (some 9) (.pick (.tmp 6) (.tmp 8) (.const (.bool false))) none [3,5],.mk (some 10) (.mv (.tmp 9)) none [6,5],.mk (some 11) (.mv (.tmp 0)) (some (10,true)) [7],.mk (some 12) (.call 75 [.tmp 11]) (some (10,true)) [8,7,7],.mk (some 13) (.bin .leq (.tmp 12) (.const (.int .i64 60))) (some (10,true)) [9,7],.mk (some 14) (.pick (.tmp 10) (.tmp 13) (.const (.bool false))) none [7,10],.mk (some 2) (.mv (.tmp 14)) none [11,9,0,1,2,3,4,5,6,7,8,9,10,11]]
def l82 : AFn :=
  (AFn.mk 15 1 (.seq (.reg l82r0) (.seq (.reg l82r1) .ret)) [.tmp 2])
theorem l82_eq : lowFn Try.prog 82 = some l82 := by kernel_rfl
def l83r0 : List AOper :=
  [.mk (some 6) (.mv (.const (.bool false))) none []]
def l83r1 : List AOper :=
  [.mk (some 7) (.mv (.const (.int .i64 0))) none []]
def l83r2 : List AOper :=
  [.mk (some 8) (.mv (.tmp 7)) none [],.mk (some 9) (.mv (.tmp 0)) none [],.mk (some 10) (.len (.tmp 9)) none [1],.mk (some 11) (.bin .lss (.tmp 8) (.tmp 10)) none [0,2]]
def l83r3 : List AOper :=
  [.mk (some 14) (.mv (.tmp 0)) none [],.mk (some 15) (.mv (.tmp 7)) none [],.mk (some 16) (.idxA 1 (.tmp 14) (.tmp 15)) none [0,1],.mk (some 17) (.load false 1 (.tmp 16)) none [2],.mk (some 18) (.mv (.tmp 1)) none [],.mk (some 19) (.mv (.tmp 2)) none [],.mk (some 20) (.call 84 [.tmp 17,.tmp 18,.tmp 19]) none [3,4,5],.mk (some 21) (.un .not (.tmp 20)) none [6]]
def l83r4 : List AOper :=
  [.mk (some 6) (.mv (.const (.bool false))) none []]
def l83r5 : List AOper :=
  [.mk (some 12) (.mv (.tmp 7)) none [],.mk (some 13) (.bin .add (.tmp 12) (.const (.int .i64 1))) none [0],.mk (some 7) (.mv (.tmp 13)) none [1,0,1]]
def l83r6 : List AOper :=
  [.mk (some 6) (.mv (.const (.bool true))) none []]
def l83 : AFn :=
  (AFn.mk 22 3 (.seq (.reg l83r0) (.seq (.seq (.reg l83r1) (.block 0 (.loop (.seq (.seq (.reg l83r2) (.cond (.tmp 11) .skip (.exit 0))) (.seq (.block 1 (.seq (.reg l83r3) (.cond (.tmp 21) (.seq (.reg l83r4) .ret) .skip))) (.reg l83r5)))))) (.seq (.reg l83r6) .ret))) [.tmp 6])
theorem l83_eq : lowFn Try.prog 83 = some l83 := by kernel_rfl
def l84r0 : List AOper :=
  [.mk (some 6) (.mv (.const (.bool false))) none []]
def l84r1 : List AOper :=
  [.mk (some 7) (.mv (.tmp 1)) none [],.mk (some 8) (.mv (.tmp 0)) none [],.mk (some 9) (.bin .leq (.tmp 7) (.tmp 8)) none [0,1],.mk (some 10) (.mv (.tmp 9)) none [2],.mk (some 11) (.mv (.tmp 0)) (some (10,true)) [3],.mk (some 12) (.mv (.tmp 2)) (some (10,true)) [3],.mk (some 13) (.bin .leq (.tmp 11) (.tmp 12)) (some (10,true)) [4,5,3],.mk (some 14) (.pick (.tmp 10) (.tmp 13) (.const (.bool false))) none [3,6],.mk (some 6) (.mv (.tmp 14)) none [7,3,0,1,2,3,4,5,6,7]]
def l84 : AFn :=
  (AFn.mk 15 3 (.seq (.reg l84r0) (.seq (.reg l84r1) .ret)) [.tmp 6])
theorem l84_eq : lowFn Try.prog 84 = some l84 := by kernel_rfl
def l85r0 : List AOper :=
  [.mk (some 2) (.box (.tmp 0)) none [],.mk (some 4) (.mv (.const (.int .i64 0))) none []]
def l85r1 : List AOper :=
  [.mk (some 7) (.fld 0 (.tmp 2)) none [],.mk (some 8) (.load false 1 (.tmp 7)) none [0],.mk (some 5) (.mv (.tmp 8)) none [1,0,1]]
def l85r2 : List AOper :=
  [.mk (some 6) (.mv (.const (.int .i64 0))) none []]
def l85r3 : List AOper :=
  [.mk (some 9) (.mv (.tmp 6)) none [],.mk (some 10) (.mv (.tmp 1)) none [],.mk (some 11) (.len (.tmp 10)) none [1],.mk (some 12) (.bin .lss (.tmp 9) (.tmp 11)) none [0,2]]
def l85r4a : List AOper :=
  [.mk (some 15) (.mv (.tmp 5)) none [],.mk (some 16) (.mv (.tmp 1)) none [],.mk (some 17) (.mv (.tmp 6)) none [],.mk (some 18) (.idxA 1 (.tmp 16) (.tmp 17)) none [1,2],.mk (some 19) (.load false 1 (.tmp 18)) none [3],.mk (some 20) (.fld 2 (.tmp 2)) none [],.mk (some 21) (.load false 1 (.tmp 20)) none [5],.mk (some 22) (.mv (.tmp 6)) none [],.mk (some 23) (.idxA 1 (.tmp 21) (.tmp 22)) none [6,7],.mk (some 24) (.load false 1 (.tmp 23)) none [8],.mk (some 25) (.bin .mul (.tmp 19) (.tmp 24)) none [4,9]]
def l85r4b : List AOper :=
  [.mk (some 26) (.bin .add (.tmp 15) (.tmp 25)) none [0,10],.mk (some 5) (.mv (.tmp 26)) none [11,0,1,2,3,4,5,6,7,8,9,10,11]]
def l85r4 : List AOper := l85r4a ++ l85r4b
def l85r5 : List AOper :=
  [.mk (some 13) (.mv (.tmp 6)) none [],.mk (some 14) (.bin .add (.tmp 13) (.const (.int .i64 1))) none [0],.mk (some 6) (.mv (.tmp 14)) none [1,0,1]]
def l85r6 : List AOper :=
  [.mk (some 27) (.mv (.tmp 5)) none [],.mk (some 4) (.mv (.tmp 27)) none [0,0]]
def l85 : AFn :=
  (AFn.mk 28 2 (.seq (.reg l85r0) (.seq (.reg l85r1) (.seq (.seq (.reg l85r2) (.block 0 (.loop (.seq (.seq (.reg l85r3) (.cond (.tmp 12) .skip (.exit 0))) (.seq (.block 1 (.draw l85r4)) (.reg l85r5)))))) (.seq (.reg l85r6) .ret)))) [.tmp 4])
theorem l85_eq : lowFn Try.prog 85 = some l85 := by kernel_rfl
def l86r0 : List AOper :=
  [.mk (some 4) (.mv (.const (.slice none 0 0))) none []]
def l86r1 : List AOper :=
  [.mk (some 7) (.mv (.tmp 0)) none [],.mk (some 8) (.len (.tmp 7)) none [0],.mk (some 9) (.mkslice 1 [.int .i64 0] (.tmp 8) (.tmp 8)) none [1,1],.mk (some 5) (.mv (.tmp 9)) none [2,0,1,2]]
def l86r2 : List AOper :=
  [.mk (some 10) (.mv (.tmp 0)) none [],.mk (some 11) (.len (.tmp 10)) none [0],.mk (some 12) (.bin .sub (.tmp 11) (.const (.int .i64 1))) none [1],.mk (some 6) (.mv (.tmp 12)) none [2,0,1,2]]
def l86r3 : List AOper :=
  [.mk (some 13) (.mv (.tmp 6)) none [],.mk (some 14) (.bin .geq (.tmp 13) (.const (.int .i64 0))) none [0]]
def l86r4 : List AOper :=
  [.mk (some 17) (.mv (.tmp 5)) none [],.mk (some 18) (.mv (.tmp 6)) none [],.mk (some 19) (.mv (.tmp 1)) none [],.mk (some 20) (.mv (.tmp 0)) none [],.mk (some 21) (.mv (.tmp 6)) none [],.mk (some 22) (.idxA 1 (.tmp 20) (.tmp 21)) none [3,4],.mk (some 23) (.load false 1 (.tmp 22)) none [5],.mk (some 24) (.bin .rem (.tmp 19) (.tmp 23)) none [2,6],.mk (some 25) (.idxA 1 (.tmp 17) (.tmp 18)) none [0,1,0,1,2,3,4,5,6,7],.mk none (.store 1 (.tmp 25) (.tmp 24)) none [8,7,0,1,2,3,4,5,6,7]]
def l86r5 : List AOper :=
  [.mk (some 26) (.mv (.tmp 1)) none [],.mk (some 27) (.mv (.tmp 0)) none [],.mk (some 28) (.mv (.tmp 6)) none [],.mk (some 29) (.idxA 1 (.tmp 27) (.tmp 28)) none [1,2],.mk (some 30) (.load false 1 (.tmp 29)) none [3],.mk (some 31) (.bin .quo (.tmp 26) (.tmp 30)) none [0,4],.mk (some 1) (.mv (.tmp 31)) none [5,0,1,2,3,4,5]]
def l86r6 : List AOper :=
  [.mk (some 15) (.mv (.tmp 6)) none [],.mk (some 16) (.bin .sub (.tmp 15) (.const (.int .i64 1))) none [0],.mk (some 6) (.mv (.tmp 16)) none [1,0,1]]
def l86r7 : List AOper :=
  [.mk (some 32) (.mv (.tmp 5)) none [],.mk (some 4) (.mv (.tmp 32)) none [0,0]]
def l86 : AFn :=
  (AFn.mk 33 2 (.seq (.reg l86r0) (.seq (.reg l86r1) (.seq (.seq (.reg l86r2) (.block 0 (.loop (.seq (.seq (.reg l86r3) (.cond (.tmp 14) .skip (.exit 0))) (.seq (.block 1 (.seq (.reg l86r4) (.reg l86r5))) (.reg l86r6)))))) (.seq (.reg l86r7) .ret)))) [.tmp 4])
theorem l86_eq : lowFn Try.prog 86 = some l86 := by kernel_rfl
def l87r0 : List AOper :=
  [.mk (some 4) (.mv (.const (.int .i64 0))) none []]
def l87r1 : List AOper :=
  [.mk (some 5) (.mv (.const (.int .i64 0))) none []]
def l87r2 : List AOper :=
  [.mk (some 6) (.mv (.tmp 5)) none [],.mk (some 7) (.mv (.tmp 0)) none [],.mk (some 8) (.len (.tmp 7)) none [1],.mk (some 9) (.bin .lss (.tmp 6) (.tmp 8)) none [0,2]]
def l87r3 : List AOper :=
  [.mk (some 12) (.mv (.tmp 0)) none [],.mk (some 13) (.mv (.tmp 5)) none [],.mk (some 14) (.idxA 1 (.tmp 12) (.tmp 13)) none [0,1],.mk (some 15) (.load false 1 (.tmp 14)) none [2],.mk (some 16) (.mv (.tmp 1)) none [],.mk (some 17) (.bin .eql (.tmp 15) (.tmp 16)) none [3,4]]
def l87r4 : List AOper :=
  [.mk (some 18) (.mv (.tmp 5)) none [],.mk (some 4) (.mv (.tmp 18)) none [0,0]]
def l87r5 : List AOper :=
  [.mk (some 10) (.mv (.tmp 5)) none [],.mk (some 11) (.bin .add (.tmp 10) (.const (.int .i64 1))) none [0],.mk (some 5) (.mv (.tmp 11)) none [1,0,1]]
def l87r6 : List AOper :=
  [.mk (some 4) (.mv (.const (.int .i64 (-1)))) none []]
def l87 : AFn :=
  (AFn.mk 19 2 (.seq (.reg l87r0) (.seq (.seq (.reg l87r1) (.block 0 (.loop (.seq (.seq (.reg l87r2) (.cond (.tmp 9) .skip (.exit 0))) (.seq (.block 1 (.seq (.reg l87r3) (.cond (.tmp 17) (.seq (.reg l87r4) .ret) .skip))) (.reg l87r5)))))) (.seq (.reg l87r6) .ret))) [.tmp 4])
theorem l87_eq : lowFn Try.prog 87 = some l87 := by kernel_rfl
def l88r0 : List AOper :=
  [.mk (some 2) (.alloc [.int .i64 0,.slice none 0 0,.slice none 0 0]) none []]
def l88r1 : List AOper :=
  [.mk (some 8) (.mv (.tmp 0)) none [],.mk (some 9) (.call 102 [.tmp 8]) none [0],.mk (some 10) (.call 101 [.tmp 9]) none [1,1],.mk (some 3) (.alloc [.int .i64 0,.slice none 0 0,.slice none 0 0]) none [],.mk none (.store 3 (.tmp 3) (.tmp 10)) none [3,2,2,0,1,2,3]]
def l88r2 : List AOper :=
  [.mk (some 11) (.mv (.tmp 0)) none [],.mk (some 12) (.mv (.tmp 0)) none [],.mk (some 13) (.call 55 [.tmp 12,.const (.int .i64 10)]) none [1],.mk (some 14) (.bslice 1 [.int .i64 0] [(0,.const (.int .i64 0)),(1,.const (.int .i64 0)),(2,.const (.int .i64 1)),(3,.const (.int .i64 3)),(4,.tmp 13)] 5) none [2],.mk (some 15) (.call 54 [.tmp 11,.tmp 14]) none [0,3,2],.mk (some 16) (.fld 0 (.tmp 3)) none [0,1,2,3,4],.mk none (.store 1 (.tmp 16) (.tmp 15)) none [5,4,4,0,1,2,3,4]]
def l88r3 : List AOper :=
  [.mk (some 17) (.mv (.tmp 0)) none [],.mk (some 18) (.call 55 [.tmp 17,.const (.int .i64 4)]) none [0],.mk (some 4) (.mv (.tmp 18)) none [1,1,0,1]]
def l88r4 : List AOper :=
  [.mk (some 19) (.mv (.tmp 4)) none [],.mk (some 20) (.bin .gtr (.tmp 19) (.const (.int .i64 0))) none [0],.mk (some 21) (.mv (.tmp 20)) none [1],.mk (some 22) (.fld 1 (.tmp 3)) (some (21,true)) [2],.mk (some 23) (.load false 1 (.tmp 22)) (some (21,true)) [3,2],.mk (some 24) (.len (.tmp 23)) (some (21,true)) [4,2],.mk (some 25) (.bin .gtr (.tmp 24) (.const (.int .i64 0))) (some (21,true)) [5,2],.mk (some 26) (.pick (.tmp 21) (.tmp 25) (.const (.bool false))) none [2,6]]
def l88r5 : List AOper :=
  [.mk (some 29) (.mv (.tmp 0)) none [],.mk (some 30) (.fld 1 (.tmp 3)) none [],.mk (some 31) (.load false 1 (.tmp 30)) none [1],.mk (some 32) (.len (.tmp 31)) none [2],.mk (some 33) (.call 55 [.tmp 29,.tmp 32]) none [0,3],.mk (some 5) (.mv (.tmp 33)) none [4,4,0,1,2,3,4]]
def l88r6 : List AOper :=
  [.mk (some 34) (.load true 3 (.tmp 3)) none [],.mk (some 6) (.alloc [.int .i64 0,.slice none 0 0,.slice none 0 0]) none [],.mk none (.store 3 (.tmp 6) (.tmp 34)) none [1,0,0,1]]
def l88r7 : List AOper :=
  [.mk (some 7) (.mv (.const (.bool false))) none []]
def l88r8 : List AOper :=
  [.mk (some 35) (.mv (.tmp 0)) none [],.mk (some 36) (.call 55 [.tmp 35,.const (.int .i64 6)]) none [0]]
def l88r9 : List AOper :=
  [.mk (some 47) (.bin .eql (.tmp 36) (.const (.int .i64 0))) none [],.mk (some 46) (.mv (.tmp 47)) none [0]]
def l88r10a : List AOper :=
  [.mk (some 49) (.load true 3 (.tmp 3)) none [],.mk (some 50) (.mv (.tmp 5)) none [],.mk (some 51) (.mv (.tmp 0)) none [],.mk (some 52) (.call 69 [.tmp 51]) none [2],.mk (some 53) (.call 27 [.tmp 49,.tmp 50,.tmp 52]) none [0,1,3,3],.mk (some 48) (.mv (.tmp 53)) none [4],.mk (some 54) (.extract (.tmp 48) 0) none [5],.mk (some 55) (.extract (.tmp 48) 1) none [5],.mk none (.store 3 (.tmp 6) (.tmp 54)) none [6,4,0,1,2,3,4,5,6]]
def l88r10b : List AOper :=
  [.mk (some 7) (.mv (.tmp 55)) none [7,8,0,1,2,3,4,5,6,7,8]]
def l88r10 : List AOper := l88r10a ++ l88r10b
def l88r11 : List AOper :=
  [.mk (some 57) (.bin .eql (.tmp 36) (.const (.int .i64 1))) none [],.mk (some 56) (.mv (.tmp 57)) none [0]]
def l88r12 : List AOper :=
  [.mk (some 59) (.load true 3 (.tmp 3)) none [],.mk (some 60) (.mv (.tmp 5)) none [],.mk (some 61) (.call 9 [.tmp 59,.tmp 60]) none [0,1],.mk (some 58) (.mv (.tmp 61)) none [2],.mk (some 62) (.extract (.tmp 58) 0) none [3],.mk (some 63) (.extract (.tmp 58) 1) none [3],.mk none (.store 3 (.tmp 6) (.tmp 62)) none [4,2,0,1,2,3,4],.mk (some 7) (.mv (.tmp 63)) none [5,6,0,1,2,3,4,5,6]]
def l88r13 : List AOper :=
  [.mk (some 65) (.bin .eql (.tmp 36) (.const (.int .i64 2))) none [],.mk (some 64) (.mv (.tmp 65)) none [0]]
def l88r14a : List AOper :=
  [.mk (some 67) (.load true 3 (.tmp 3)) none [],.mk (some 68) (.fld 1 (.tmp 3)) none [],.mk (some 69) (.load false 1 (.tmp 68)) none [1],.mk (some 70) (.len (.tmp 69)) none [2],.mk (some 71) (.call 105 [.tmp 70]) none [3],.mk (some 72) (.call 104 [.tmp 71]) none [4,4],.mk (some 73) (.call 103 [.tmp 67,.tmp 72]) none [0,5,5],.mk (some 66) (.mv (.tmp 73)) none [6],.mk (some 74) (.extract (.tmp 66) 0) none [7],.mk (some 75) (.extract (.tmp 66) 1) none [7],.mk none (.store 3 (.tmp 6) (.tmp 74)) none [8,6,0,1,2,3,4,5,6,7,8]]
def l88r14b : List AOper :=
  [.mk (some 7) (.mv (.tmp 75)) none [9,10,0,1,2,3,4,5,6,7,8,9,10]]
def l88r14 : List AOper := l88r14a ++ l88r14b
def l88r15 : List AOper :=
  [.mk (some 77) (.bin .eql (.tmp 36) (.const (.int .i64 3))) none [],.mk (some 76) (.mv (.tmp 77)) none [0]]
def l88r16a : List AOper :=
  [.mk (some 79) (.load true 3 (.tmp 3)) none [],.mk (some 80) (.mv (.tmp 5)) none [],.mk (some 81) (.mv (.tmp 0)) none [],.mk (some 82) (.call 55 [.tmp 81,.const (.int .i64 3)]) none [2],.mk (some 83) (.bin .add (.const (.int .i64 1)) (.tmp 82)) none [3],.mk (some 84) (.call 106 [.tmp 79,.tmp 80,.tmp 83]) none [0,1,4,3],.mk (some 78) (.mv (.tmp 84)) none [5],.mk (some 85) (.extract (.tmp 78) 0) none [6],.mk (some 86) (.extract (.tmp 78) 1) none [6],.mk none (.store 3 (.tmp 6) (.tmp 85)) none [7,5,0,1,2,3,4,5,6,7]]
def l88r16b : List AOper :=
  [.mk (some 7) (.mv (.tmp 86)) none [8,9,0,1,2,3,4,5,6,7,8,9]]
def l88r16 : List AOper := l88r16a ++ l88r16b
def l88r17 : List AOper :=
  [.mk (some 88) (.bin .eql (.tmp 36) (.const (.int .i64 4))) none [],.mk (some 87) (.mv (.tmp 88)) none [0]]
def l88r18 : List AOper :=
  [.mk (some 90) (.load true 3 (.tmp 3)) none [],.mk (some 91) (.mv (.tmp 5)) none [],.mk (some 92) (.call 107 [.tmp 90,.tmp 91]) none [0,1],.mk (some 89) (.mv (.tmp 92)) none [2],.mk (some 93) (.extract (.tmp 89) 0) none [3],.mk (some 94) (.extract (.tmp 89) 1) none [3],.mk none (.store 3 (.tmp 6) (.tmp 93)) none [4,2,0,1,2,3,4],.mk (some 7) (.mv (.tmp 94)) none [5,6,0,1,2,3,4,5,6]]
def l88r19 : List AOper :=
  [.mk (some 37) (.load true 3 (.tmp 3)) none [],.mk (some 38) (.call 70 [.tmp 37]) none [0],.mk none (.store 3 (.tmp 6) (.tmp 38)) none [1,1,0,1]]
def l88r20a : List AOper :=
  [.mk (some 39) (.fld 2 (.tmp 6)) none [],.mk (some 40) (.load false 1 (.tmp 39)) none [0],.mk (some 41) (.mv (.tmp 5)) none [],.mk (some 42) (.mv (.tmp 0)) none [],.mk (some 43) (.bslice 1 [.int .i64 0] [(0,.const (.int .i64 0)),(1,.const (.int .i64 2)),(2,.const (.int .i64 3)),(3,.const (.int .i64 1)),(4,.const (.int .i64 (-1))),(5,.const (.int .i64 5))] 6) none [],.mk (some 44) (.call 54 [.tmp 42,.tmp 43]) none [3,4]]
def l88r20b : List AOper :=
  [.mk (some 45) (.idxA 1 (.tmp 40) (.tmp 41)) none [1,2,0,1,2,3,4,5],.mk none (.store 1 (.tmp 45) (.tmp 44)) none [6,5,5,0,1,2,3,4,5]]
def l88r20 : List AOper := l88r20a ++ l88r20b
def l88r21 : List AOper :=
  [.mk (some 7) (.mv (.const (.bool true))) none []]
def l88r22 : List AOper :=
  [.mk (some 95) (.mv (.tmp 7)) none [],.mk (some 96) (.mv (.tmp 95)) none [0],.mk (some 97) (.load true 3 (.tmp 6)) (some (96,true)) [1],.mk (some 98) (.call 48 [.tmp 97]) (some (96,true)) [2,1,1],.mk (some 99) (.pick (.tmp 96) (.tmp 98) (.const (.bool false))) none [1,3]]
def l88r23 : List AOper :=
  [.mk (some 100) (.load true 3 (.tmp 6)) none [],.mk none (.store 3 (.tmp 3) (.tmp 100)) none [0,0]]
def l88r24 : List AOper :=
  [.mk (some 27) (.mv (.tmp 4)) none [],.mk (some 28) (.bin .sub (.tmp 27) (.const (.int .i64 1))) none [0],.mk (some 4) (.mv (.tmp 28)) none [1,0,1]]
def l88r25 : List AOper :=
  [.mk (some 101) (.load true 3 (.tmp 3)) none [],.mk (some 102) (.call 48 [.tmp 101]) none [0],.mk (some 103) (.un .not (.tmp 102)) none [1]]
def l88r26 : List AOper :=
  [.mk (some 104) (.fld 0 (.tmp 3)) none [],.mk none (.store 1 (.tmp 104) (.const (.int .i64 0))) none [0]]
def l88r27 : List AOper :=
  [.mk (some 105) (.load true 3 (.tmp 3)) none [],.mk none (.store 3 (.tmp 2) (.tmp 105)) none [0,0]]
def l88 : AFn :=
  (AFn.mk 106 1 (.seq (.reg l88r0) (.seq (.reg l88r1) (.seq (.reg l88r2) (.seq (.seq (.reg l88r3) (.block 0 (.loop (.seq (.seq (.reg l88r4) (.cond (.tmp 26) .skip (.exit 0))) (.seq (.block 1 (.seq (.reg l88r5) (.seq (.reg l88r6) (.seq (.reg l88r7) (.seq (.seq (.reg l88r8) (.block 2 (.seq (.reg l88r9) (.cond (.tmp 46) (.draw l88r10) (.seq (.reg l88r11) (.cond (.tmp 56) (.reg l88r12) (.seq (.reg l88r13) (.cond (.tmp 64) (.draw l88r14) (.seq (.reg l88r15) (.cond (.tmp 76) (.draw l88r16) (.seq (.reg l88r17) (.cond (.tmp 87) (.reg l88r18) (.seq (.reg l88r19) (.seq (.draw l88r20) (.reg l88r21))))))))))))))) (.seq (.reg l88r22) (.cond (.tmp 99) (.reg l88r23) .skip))))))) (.reg l88r24)))))) (.seq (.seq (.reg l88r25) (.cond (.tmp 103) (.reg l88r26) .skip)) (.seq (.reg l88r27) .ret)))))) [.cell 2 true 3])
theorem l88_eq : lowFn Try.prog 88 = some l88 := by kernel_rfl
def l89r0 : List AOper :=
  [.mk (some 4) (.mv (.const (.bool false))) none []]
def l89r1 : List AOper :=
  [.mk (some 5) (.mv (.tmp 0)) none [],.mk (some 6) (.call 77 [.tmp 5,.const (.int .i64 100)]) none [0],.mk (some 7) (.mv (.tmp 6)) none [1,1],.mk (some 8) (.mv (.tmp 1)) (some (7,true)) [2],.mk (some 9) (.mv (.tmp 8)) (some (7,true)) [3,2,2],.mk (some 10) (.mv (.tmp 0)) (some (9,false)) [4],.mk (some 11) (.bin .eql (.tmp 10) (.const (.int .i64 0))) (some (9,false)) [5,4],.mk (some 12) (.pick (.tmp 9) (.const (.bool true)) (.tmp 11)) (some (7,true)) [4,6,2],.mk (some 13) (.pick (.tmp 7) (.tmp 12) (.const (.bool false))) none [2,7],.mk (some 4) (.mv (.tmp 13)) none [8,4,0,1,2,3,4,5,6,7,8]]
def l89 : AFn :=
  (AFn.mk 14 2 (.seq (.reg l89r0) (.seq (.reg l89r1) .ret)) [.tmp 4])
theorem l89_eq : lowFn Try.prog 89 = some l89 := by kernel_rfl
def l90r0 : List AOper :=
  [.mk (some 2) (.mv (.const (.bool false))) none []]
def l90r1 : List AOper :=
  [.mk (some 3) (.mv (.tmp 0)) none [],.mk (some 4) (.call 77 [.tmp 3,.const (.int .i64 200)]) none [0],.mk (some 5) (.mv (.tmp 4)) none [1,1],.mk (some 6) (.mv (.tmp 0)) (some (5,true)) [2],.mk (some 7) (.bin .neq (.tmp 6) (.const (.int .i64 0))) (some (5,true)) [3,2],.mk (some 8) (.pick (.tmp 5) (.tmp 7) (.const (.bool false))) none [2,4],.mk (some 2) (.mv (.tmp 8)) none [5,2,0,1,2,3,4,5]]
def l90 : AFn :=
  (AFn.mk 9 1 (.seq (.reg l90r0) (.seq (.reg l90r1) .ret)) [.tmp 2])
theorem l90_eq : lowFn Try.prog 90 = some l90 := by kernel_rfl
def l91r0 : List AOper :=
  [.mk (some 8) (.mv (.const (.int .i64 0))) none []]
def l91r1 : List AOper :=
  [.mk (some 9) (.mv (.tmp 0)) none [],.mk (some 10) (.bin .lss (.tmp 9) (.const (.int .i64 0))) none [0]]
def l91r2 : List AOper :=
  [.mk (some 11) (.mv (.tmp 0)) none [],.mk (some 12) (.mv (.tmp 1)) none [],.mk (some 13) (.bin .add (.tmp 11) (.tmp 12)) none [0,1],.mk (some 0) (.mv (.tmp 13)) none [2,0,1,2]]
def l91r3 : List AOper :=
  [.mk (some 14) (.mv (.tmp 0)) none [],.mk (some 15) (.mv (.tmp 2)) none [],.mk (some 16) (.minmax true (.tmp 14) (.tmp 15)) none [0,1],.mk (some 17) (.mv (.tmp 3)) none [],.mk (some 18) (.minmax false (.tmp 16) (.tmp 17)) none [2,3],.mk (some 8) (.mv (.tmp 18)) none [4,0,1,2,3,4]]
def l91 : AFn :=
  (AFn.mk 19 4 (.seq (.reg l91r0) (.seq (.seq (.reg l91r1) (.cond (.tmp 10) (.reg l91r2) .skip)) (.seq (.reg l91r3) .ret))) [.tmp 8])
theorem l91_eq : lowFn Try.prog 91 = some l91 := by kernel_rfl
def l92r0 : List AOper :=
  [.mk (some 1) (.box (.tmp 0)) none [],.mk (some 2) (.alloc [.int .i64 0,.slice none 0 0,.slice none 0 0]) none []]
def l92r1 : List AOper :=
  [.mk (some 6) (.fld 0 (.tmp 1)) none [],.mk (some 7) (.load true 3 (.tmp 6)) none [0],.mk (some 8) (.fld 3 (.tmp 1)) none [],.mk (some 9) (.load true 4 (.tmp 8)) none [2],.mk (some 10) (.call 66 [.tmp 7,.tmp 9]) none [1,3],.mk (some 11) (.build [.int .i64 0,.slice none 0 0,.slice none 0 0] [(0,1,.tmp 10)]) none [4],.mk (some 3) (.alloc [.int .i64 0,.slice none 0 0,.slice none 0 0]) none [],.mk none (.store 3 (.tmp 3) (.tmp 11)) none [6,5,4,0,1,2,3,4,5,6]]
def l92r2 : List AOper :=
  [.mk (some 12) (.fld 7 (.tmp 1)) none [],.mk (some 13) (.load false 1 (.tmp 12)) none [0],.mk (some 14) (.len (.tmp 13)) none [1],.mk (some 15) (.mv (.const (.int .i64 0))) none []]
def l92r3 : List AOper :=
  [.mk (some 16) (.bin .lss (.tmp 15) (.tmp 14)) none []]
def l92r4 : List AOper :=
  [.mk (some 17) (.idxA 2 (.tmp 13) (.tmp 15)) none [],.mk (some 18) (.load true 2 (.tmp 17)) none [0],.mk (some 5) (.alloc [.int .i64 0,.int .i64 0]) none [],.mk none (.store 2 (.tmp 5) (.tmp 18)) none [2,1,0,1,2]]
def l92r5 : List AOper :=
  [.mk (some 19) (.fld 1 (.tmp 3)) none [],.mk (some 20) (.load false 1 (.tmp 19)) none [0],.mk (some 21) (.fld 0 (.tmp 5)) none [],.mk (some 22) (.load false 1 (.tmp 21)) none [2],.mk (some 23) (.bslice 1 [.int .i64 0] [(0,.tmp 22)] 1) none [3],.mk (some 24) (.append 1 (.tmp 20) (.tmp 23)) none [1,4],.mk (some 25) (.fld 1 (.tmp 3)) none [0,1,2,3,4,5],.mk none (.store 1 (.tmp 25) (.tmp 24)) none [6,5,5,0,1,2,3,4,5]]
def l92r6 : List AOper :=
  [.mk (some 26) (.fld 2 (.tmp 3)) none [],.mk (some 27) (.load false 1 (.tmp 26)) none [0],.mk (some 28) (.fld 1 (.tmp 5)) none [],.mk (some 29) (.load false 1 (.tmp 28)) none [2],.mk (some 30) (.bslice 1 [.int .i64 0] [(0,.tmp 29)] 1) none [3],.mk (some 31) (.append 1 (.tmp 27) (.tmp 30)) none [1,4],.mk (some 32) (.fld 2 (.tmp 3)) none [0,1,2,3,4,5],.mk none (.store 1 (.tmp 32) (.tmp 31)) none [6,5,5,0,1,2,3,4,5]]
def l92r7 : List AOper :=
  [.mk (some 33) (.bin .add (.tmp 15) (.const (.int .i64 1))) none [],.mk (some 15) (.mv (.tmp 33)) none [0]]
def l92r8 : List AOper :=
  [.mk (some 34) (.load true 3 (.tmp 3)) none [],.mk none (.store 3 (.tmp 2) (.tmp 34)) none [0,0]]
def l92 : AFn :=
  (AFn.mk 35 1 (.seq (.reg l92r0) (.seq (.reg l92r1) (.seq (.seq (.reg l92r2) (.block 0 (.loop (.seq (.reg l92r3) (.seq (.cond (.tmp 16) .skip (.exit 0)) (.seq (.block 1 (.seq (.reg l92r4) (.seq (.reg l92r5) (.reg l92r6)))) (.reg l92r7))))))) (.seq (.reg l92r8) .ret)))) [.cell 2 true 3])
theorem l92_eq : lowFn Try.prog 92 = some l92 := by kernel_rfl
def l93r0 : List AOper :=
  [.mk (some 2) (.alloc [.int .i64 0,.int .i64 0,.int .i64 0]) none []]
def l93r1 : List AOper :=
  [.mk (some 5) (.mv (.tmp 0)) none [],.mk (some 6) (.len (.tmp 5)) none [0]]
def l93r2 : List AOper :=
  [.mk (some 8) (.bin .eql (.tmp 6) (.const (.int .i64 0))) none [],.mk (some 7) (.mv (.tmp 8)) none [0]]
def l93r3 : List AOper :=
  [.mk (some 9) (.build [.int .i64 0,.int .i64 0,.int .i64 0] [(0,1,.const (.int .i64 0)),(1,1,.const (.int .i64 0)),(2,1,.const (.int .i64 1))]) none [],.mk none (.store 3 (.tmp 2) (.tmp 9)) none [0,0]]
def l93r4 : List AOper :=
  [.mk (some 11) (.bin .eql (.tmp 6) (.const (.int .i64 1))) none [],.mk (some 10) (.mv (.tmp 11)) none [0]]
def l93r5a : List AOper :=
  [.mk (some 12) (.mv (.tmp 0)) none [],.mk (some 13) (.idxA 1 (.tmp 12) (.const (.int .i64 0))) none [0],.mk (some 14) (.load false 1 (.tmp 13)) none [1],.mk (some 15) (.mv (.tmp 0)) none [],.mk (some 16) (.idxA 1 (.tmp 15) (.const (.int .i64 0))) none [3],.mk (some 17) (.load false 1 (.tmp 16)) none [4],.mk (some 18) (.bin .add (.tmp 17) (.const (.int .i64 1))) none [5]]
def l93r5b : List AOper :=
  [.mk (some 19) (.build [.int .i64 0,.int .i64 0,.int .i64 0] [(0,1,.tmp 14),(1,1,.tmp 18),(2,1,.const (.int .i64 1))]) none [2,6],.mk none (.store 3 (.tmp 2) (.tmp 19)) none [7,0,1,2,3,4,5,6,7]]
def l93r5 : List AOper := l93r5a ++ l93r5b
def l93r6a : List AOper :=
  [.mk (some 20) (.mv (.tmp 0)) none [],.mk (some 21) (.idxA 1 (.tmp 20) (.const (.int .i64 1))) none [0],.mk (some 22) (.load false 1 (.tmp 21)) none [1],.mk (some 23) (.mv (.tmp 0)) none [],.mk (some 24) (.idxA 1 (.tmp 23) (.const (.int .i64 0))) none [3],.mk (some 25) (.load false 1 (.tmp 24)) none [4]]
def l93r6b : List AOper :=
  [.mk (some 26) (.bin .sub (.tmp 22) (.tmp 25)) none [2,5],.mk (some 3) (.mv (.tmp 26)) none [6,0,1,2,3,4,5,6]]
def l93r6 : List AOper := l93r6a ++ l93r6b
def l93r7 : List AOper :=
  [.mk (some 27) (.mv (.tmp 0)) none [],.mk (some 28) (.mv (.tmp 0)) none [],.mk (some 29) (.len (.tmp 28)) none [1],.mk (some 30) (.bin .sub (.tmp 29) (.const (.int .i64 1))) none [2],.mk (some 31) (.idxA 1 (.tmp 27) (.tmp 30)) none [0,3],.mk (some 32) (.load false 1 (.tmp 31)) none [4],.mk (some 33) (.bin .add (.tmp 32) (.const (.int .i64 1))) none [5],.mk (some 4) (.mv (.tmp 33)) none [6,0,1,2,3,4,5,6]]
def l93r8 : List AOper :=
  [.mk (some 34) (.mv (.tmp 3)) none [],.mk (some 35) (.bin .lss (.tmp 34) (.const (.int .i64 0))) none [0]]
def l93r9 : List AOper :=
  [.mk (some 36) (.mv (.tmp 0)) none [],.mk (some 37) (.mv (.tmp 0)) none [],.mk (some 38) (.len (.tmp 37)) none [1],.mk (some 39) (.bin .sub (.tmp 38) (.const (.int .i64 1))) none [2],.mk (some 40) (.idxA 1 (.tmp 36) (.tmp 39)) none [0,3],.mk (some 41) (.load false 1 (.tmp 40)) none [4],.mk (some 42) (.bin .sub (.tmp 41) (.const (.int .i64 1))) none [5],.mk (some 4) (.mv (.tmp 42)) none [6,0,1,2,3,4,5,6]]
def l93r10 : List AOper :=
  [.mk (some 43) (.mv (.tmp 0)) none [],.mk (some 44) (.idxA 1 (.tmp 43) (.const (.int .i64 0))) none [0],.mk (some 45) (.load false 1 (.tmp 44)) none [1],.mk (some 46) (.mv (.tmp 4)) none [],.mk (some 47) (.mv (.tmp 3)) none [],.mk (some 48) (.build [.int .i64 0,.int .i64 0,.int .i64 0] [(0,1,.tmp 45),(1,1,.tmp 46),(2,1,.tmp 47)]) none [2,3,4],.mk none (.store 3 (.tmp 2) (.tmp 48)) none [5,0,1,2,3,4,5]]
def l93 : AFn :=
  (AFn.mk 49 1 (.seq (.reg l93r0) (.seq (.seq (.reg l93r1) (.block 0 (.seq (.reg l93r2) (.cond (.tmp 7) (.seq (.reg l93r3) .ret) (.seq (.reg l93r4) (.cond (.tmp 10) (.seq (.draw l93r5) .ret) .skip)))))) (.seq (.draw l93r6) (.seq (.reg l93r7) (.seq (.seq (.reg l93r8) (.cond (.tmp 35) (.reg l93r9) .skip)) (.seq (.reg l93r10) .ret)))))) [.cell 2 true 3])
theorem l93_eq : lowFn Try.prog 93 = some l93 := by kernel_rfl
def l94r0 : List AOper :=
  [.mk (some 3) (.box (.tmp 1)) none [],.mk (some 4) (.mv (.const (.slice none 0 0))) none []]
def l94r1 : List AOper :=
  [.mk (some 5) (.mv (.const (.int .i64 0))) none []]
def l94r2 : List AOper :=
  [.mk (some 7) (.mv (.tmp 0)) none [],.mk (some 6) (.mv (.tmp 7)) none [0,0]]
def l94r3 : List AOper :=
  [.mk (some 8) (.fld 2 (.tmp 3)) none [],.mk (some 9) (.load false 1 (.tmp 8)) none [0],.mk (some 10) (.bin .lss (.tmp 9) (.const (.int .i64 0))) none [1]]
def l94r4 : List AOper :=
  [.mk (some 11) (.mv (.tmp 0)) none [],.mk (some 12) (.bin .sub (.tmp 11) (.const (.int .i64 1))) none [0],.mk (some 5) (.mv (.tmp 12)) none [1,0,1]]
def l94r5 : List AOper :=
  [.mk (some 6) (.mv (.const (.int .i64 (-1)))) none []]
def l94r6 : List AOper :=
  [.mk (some 13) (.fld 3 (.tmp 3)) none [],.mk (some 14) (.load false 1 (.tmp 13)) none [0]]
def l94r7 : List AOper :=
  [.mk (some 15) (.mv (.tmp 0)) none [],.mk (some 16) (.fld 0 (.tmp 3)) none [],.mk (some 17) (.load false 1 (.tmp 16)) none [1],.mk (some 18) (.fld 2 (.tmp 3)) none [],.mk (some 19) (.load false 1 (.tmp 18)) none [3],.mk (some 20) (.call 108 [.tmp 15,.tmp 17,.tmp 19]) none [0,2,4],.mk (some 5) (.mv (.tmp 20)) none [5,5,0,1,2,3,4,5]]
def l94r8 : List AOper :=
  [.mk (some 21) (.fld 4 (.tmp 3)) none [],.mk (some 22) (.load false 1 (.tmp 21)) none [0]]
def l94r9 : List AOper :=
  [.mk (some 23) (.mv (.tmp 0)) none [],.mk (some 24) (.fld 1 (.tmp 3)) none [],.mk (some 25) (.load false 1 (.tmp 24)) none [1],.mk (some 26) (.fld 2 (.tmp 3)) none [],.mk (some 27) (.load false 1 (.tmp 26)) none [3],.mk (some 28) (.call 108 [.tmp 23,.tmp 25,.tmp 27]) none [0,2,4],.mk (some 6) (.mv (.tmp 28)) none [5,5,0,1,2,3,4,5]]
def l94r10 : List AOper :=
  [.mk (some 29) (.mv (.tmp 5)) none [],.mk (some 30) (.mv (.tmp 6)) none [],.mk (some 31) (.fld 2 (.tmp 3)) none [],.mk (some 32) (.load false 1 (.tmp 31)) none [2],.mk (some 33) (.build [.int .i64 0,.int .i64 0,.int .i64 0] [(0,1,.tmp 29),(1,1,.tmp 30),(2,1,.tmp 32)]) none [0,1,3],.mk (some 34) (.call 95 [.tmp 33]) none [4],.mk (some 4) (.mv (.tmp 34)) none [5,5,0,1,2,3,4,5]]
def l94 : AFn :=
  (AFn.mk 35 2 (.seq (.reg l94r0) (.seq (.reg l94r1) (.seq (.reg l94r2) (.seq (.seq (.reg l94r3) (.cond (.tmp 10) (.seq (.reg l94r4) (.reg l94r5)) .skip)) (.seq (.seq (.reg l94r6) (.cond (.tmp 14) (.reg l94r7) .skip)) (.seq (.seq (.reg l94r8) (.cond (.tmp 22) (.reg l94r9) .skip)) (.seq (.reg l94r10) .ret))))))) [.tmp 4])
theorem l94_eq : lowFn Try.prog 94 = some l94 := by kernel_rfl
def l95r0 : List AOper :=
  [.mk (some 1) (.box (.tmp 0)) none [],.mk (some 2) (.mv (.const (.slice none 0 0))) none []]
def l95r1 : List AOper :=
  [.mk (some 5) (.bslice 1 [.int .i64 0] [] 0) none [],.mk (some 3) (.mv (.tmp 5)) none [0,0]]
def l95r2 : List AOper :=
  [.mk (some 6) (.fld 0 (.tmp 1)) none [],.mk (some 7) (.load false 1 (.tmp 6)) none [0],.mk (some 4) (.mv (.tmp 7)) none [1,0,1]]
def l95r3 : List AOper :=
  [.mk (some 8) (.fld 2 (.tmp 1)) none [],.mk (some 9) (.load false 1 (.tmp 8)) none [0],.mk (some 10) (.bin .gtr (.tmp 9) (.const (.int .i64 0))) none [1],.mk (some 11) (.mv (.tmp 10)) none [2],.mk (some 12) (.mv (.tmp 4)) (some (11,true)) [3],.mk (some 13) (.fld 1 (.tmp 1)) (some (11,true)) [3],.mk (some 14) (.load false 1 (.tmp 13)) (some (11,true)) [5,3],.mk (some 15) (.bin .lss (.tmp 12) (.tmp 14)) (some (11,true)) [4,6,3],.mk (some 16) (.pick (.tmp 11) (.tmp 15) (.const (.bool false))) none [3,7],.mk (some 17) (.mv (.tmp 16)) none [8,3],.mk (some 18) (.fld 2 (.tmp 1)) (some (17,false)) [9],.mk (some 19) (.load false 1 (.tmp 18)) (some (17,false)) [10,9],.mk (some 20) (.bin .lss (.tmp 19) (.const (.int .i64 0))) (some (17,false)) [11,9],.mk (some 21) (.mv (.tmp 20)) (some (17,false)) [12,9,9],.mk (some 22) (.mv (.tmp 4)) (some (21,true)) [13],.mk (some 23) (.fld 1 (.tmp 1)) (some (21,true)) [13],.mk (some 24) (.load false 1 (.tmp 23)) (some (21,true)) [15,13],.mk (some 25) (.bin .gtr (.tmp 22) (.tmp 24)) (some (21,true)) [14,16,13],.mk (some 26) (.pick (.tmp 21) (.tmp 25) (.const (.bool false))) (some (17,false)) [13,17,9],.mk (some 27) (.pick (.tmp 17) (.const (.bool true)) (.tmp 26)) none [9,18]]
def l95r4 : List AOper :=
  [.mk (some 32) (.mv (.tmp 3)) none [],.mk (some 33) (.mv (.tmp 4)) none [],.mk (some 34) (.bslice 1 [.int .i64 0] [(0,.tmp 33)] 1) none [1],.mk (some 35) (.append 1 (.tmp 32) (.tmp 34)) none [0,2],.mk (some 3) (.mv (.tmp 35)) none [3,3,0,1,2,3]]
def l95r5 : List AOper :=
  [.mk (some 28) (.mv (.tmp 4)) none [],.mk (some 29) (.fld 2 (.tmp 1)) none [],.mk (some 30) (.load false 1 (.tmp 29)) none [1],.mk (some 31) (.bin .add (.tmp 28) (.tmp 30)) none [0,2],.mk (some 4) (.mv (.tmp 31)) none [3,0,1,2,3]]
def l95r6 : List AOper :=
  [.mk (some 36) (.mv (.tmp 3)) none [],.mk (some 2) (.mv (.tmp 36)) none [0,0]]
def l95 : AFn :=
  (AFn.mk 37 1 (.seq (.reg l95r0) (.seq (.reg l95r1) (.seq (.seq (.reg l95r2) (.block 0 (.loop (.seq (.seq (.reg l95r3) (.cond (.tmp 27) .skip (.exit 0))) (.seq (.block 1 (.reg l95r4)) (.reg l95r5)))))) (.seq (.reg l95r6) .ret)))) [.tmp 2])
theorem l95_eq : lowFn Try.prog 95 = some l95 := by kernel_rfl
def l96r0 : List AOper :=
  [.mk (some 1) (.box (.tmp 0)) none [],.mk (some 2) (.alloc [.int .i64 0,.slice none 0 0,.slice none 0 0]) none []]
def l96r1 : List AOper :=
  [.mk (some 3) (.fld 1 (.tmp 1)) none [],.mk (some 4) (.load false 1 (.tmp 3)) none [0],.mk (some 5) (.call 75 [.tmp 4]) none [1],.mk (some 6) (.bin .eql (.tmp 5) (.const (.int .i64 0))) none [2]]
def l96r2a : List AOper :=
  [.mk (some 7) (.fld 1 (.tmp 1)) none [],.mk (some 8) (.load false 1 (.tmp 7)) none [0],.mk (some 9) (.fld 1 (.tmp 1)) none [],.mk (some 10) (.load false 1 (.tmp 9)) none [2],.mk (some 11) (.len (.tmp 10)) none [3],.mk (some 12) (.mkslice 1 [.int .i64 0] (.tmp 11) (.tmp 11)) none [4,4]]
def l96r2b : List AOper :=
  [.mk (some 13) (.build [.int .i64 0,.slice none 0 0,.slice none 0 0] [(1,1,.tmp 8),(2,1,.tmp 12)]) none [1,5],.mk none (.store 3 (.tmp 2) (.tmp 13)) none [6,0,1,2,3,4,5,6]]
def l96r2 : List AOper := l96r2a ++ l96r2b
def l96r3 : List AOper :=
  [.mk (some 14) (.load true 3 (.tmp 1)) none [],.mk none (.store 3 (.tmp 2) (.tmp 14)) none [0,0]]
def l96 : AFn :=
  (AFn.mk 15 1 (.seq (.reg l96r0) (.seq (.seq (.reg l96r1) (.cond (.tmp 6) (.seq (.draw l96r2) .ret) .skip)) (.seq (.reg l96r3) .ret))) [.cell 2 true 3])
theorem l96_eq : lowFn Try.prog 96 = some l96 := by kernel_rfl
def l97r0 : List AOper :=
  [.mk (some 2) (.box (.tmp 0)) none [],.mk (some 4) (.mv (.const (.int .i64 0))) none []]
def l97r1 : List AOper :=
  [.mk (some 5) (.mv (.const (.int .i64 0))) none []]
def l97r2 : List AOper :=
  [.mk (some 8) (.mv (.tmp 1)) none [],.mk (some 9) (.len (.tmp 8)) none [0],.mk (some 10) (.mv (.const (.int .i64 0))) none []]
def l97r3 : List AOper :=
  [.mk (some 11) (.bin .lss (.tmp 10) (.tmp 9)) none []]
def l97r4 : List AOper :=
  [.mk (some 12) (.mv (.tmp 10)) none [],.mk (some 13) (.idxA 1 (.tmp 8) (.tmp 10)) none [],.mk (some 14) (.load false 1 (.tmp 13)) none [1],.mk (some 6) (.mv (.tmp 12)) none [0,0,1,2],.mk (some 7) (.mv (.tmp 14)) none [2,3,0,1,2,3]]
def l97r5 : List AOper :=
  [.mk (some 15) (.mv (.tmp 5)) none [],.mk (some 16) (.mv (.tmp 6)) none [],.mk (some 17) (.idxP 1 4 (.tmp 2) (.tmp 16)) none [1],.mk (some 18) (.load false 1 (.tmp 17)) none [2],.mk (some 19) (.mv (.tmp 7)) none [],.mk (some 20) (.bin .mul (.tmp 18) (.tmp 19)) none [3,4],.mk (some 21) (.bin .add (.tmp 15) (.tmp 20)) none [0,5],.mk (some 5) (.mv (.tmp 21)) none [6,0,1,2,3,4,5,6]]
def l97r6 : List AOper :=
  [.mk (some 22) (.bin .add (.tmp 10) (.const (.int .i64 1))) none [],.mk (some 10) (.mv (.tmp 22)) none [0]]
def l97r7 : List AOper :=
  [.mk (some 23) (.mv (.tmp 5)) none [],.mk (some 4) (.mv (.tmp 23)) none [0,0]]
def l97 : AFn :=
  (AFn.mk 24 2 (.seq (.reg l97r0) (.seq (.reg l97r1) (.seq (.seq (.reg l97r2) (.block 0 (.loop (.seq (.reg l97r3) (.seq (.cond (.tmp 11) .skip (.exit 0)) (.seq (.block 1 (.seq (.reg l97r4) (.reg l97r5))) (.reg l97r6))))))) (.seq (.reg l97r7) .ret)))) [.tmp 4])
theorem l97_eq : lowFn Try.prog 97 = some l97 := by kernel_rfl
def l99r0 : List AOper :=
  [.mk (some 2) (.mv (.const (.slice none 0 0))) none []]
def l99r1 : List AOper :=
  [.mk (some 3) (.bslice 1 [.int .i64 0] [] 0) none [],.mk (some 4) (.mv (.tmp 0)) none [],.mk (some 5) (.append 1 (.tmp 3) (.tmp 4)) none [0,1],.mk (some 2) (.mv (.tmp 5)) none [2,2,0,1,2]]
def l99 : AFn :=
  (AFn.mk 6 1 (.seq (.reg l99r0) (.seq (.reg l99r1) .ret)) [.tmp 2])
theorem l99_eq : lowFn Try.prog 99 = some l99 := by kernel_rfl
def l101r0 : List AOper :=
  [.mk (some 2) (.alloc [.int .i64 0,.slice none 0 0,.slice none 0 0]) none []]
def l101r1 : List AOper :=
  [.mk (some 3) (.mv (.tmp 0)) none [],.mk (some 4) (.call 82 [.tmp 3]) none [0],.mk (some 5) (.un .not (.tmp 4)) none [1]]
def l101r2 : List AOper :=
  [.mk (some 6) (.build [.int .i64 0,.slice none 0 0,.slice none 0 0] []) none [],.mk none (.store 3 (.tmp 2) (.tmp 6)) none [0,0]]
def l101r3 : List AOper :=
  [.mk (some 7) (.mv (.tmp 0)) none [],.mk (some 8) (.call 75 [.tmp 7]) none [0],.mk (some 9) (.bin .eql (.tmp 8) (.const (.int .i64 0))) none [1]]
def l101r4a : List AOper :=
  [.mk (some 10) (.mv (.tmp 0)) none [],.mk (some 11) (.call 99 [.tmp 10]) none [0],.mk (some 12) (.mv (.tmp 0)) none [],.mk (some 13) (.len (.tmp 12)) none [2],.mk (some 14) (.mkslice 1 [.int .i64 0] (.tmp 13) (.tmp 13)) none [3,3]]
def l101r4b : List AOper :=
  [.mk (some 15) (.build [.int .i64 0,.slice none 0 0,.slice none 0 0] [(1,1,.tmp 11),(2,1,.tmp 14)]) none [1,4],.mk none (.store 3 (.tmp 2) (.tmp 15)) none [5,1,0,1,2,3,4,5]]
def l101r4 : List AOper := l101r4a ++ l101r4b
def l101r5 : List AOper :=
  [.mk (some 16) (.mv (.tmp 0)) none [],.mk (some 17) (.call 99 [.tmp 16]) none [0],.mk (some 18) (.mv (.tmp 0)) none [],.mk (some 19) (.call 111 [.tmp 18]) none [2,1],.mk (some 20) (.build [.int .i64 0,.slice none 0 0,.slice none 0 0] [(1,1,.tmp 17),(2,1,.tmp 19)]) none [1,3],.mk none (.store 3 (.tmp 2) (.tmp 20)) none [4,3,0,1,2,3,4]]
def l101 : AFn :=
  (AFn.mk 21 1 (.seq (.reg l101r0) (.seq (.seq (.reg l101r1) (.cond (.tmp 5) (.seq (.reg l101r2) .ret) .skip)) (.seq (.seq (.reg l101r3) (.cond (.tmp 9) (.seq (.draw l101r4) .ret) .skip)) (.seq (.reg l101r5) .ret)))) [.cell 2 true 3])
theorem l101_eq : lowFn Try.prog 101 = some l101 := by kernel_rfl
def l102r0 : List AOper :=
  [.mk (some 2) (.mv (.const (.slice none 0 0))) none []]
def l102r1 : List AOper :=
  [.mk (some 6) (.bslice 1 [.int .i64 0] [] 0) none [],.mk (some 3) (.mv (.tmp 6)) none [0,0]]
def l102r2 : List AOper :=
  [.mk (some 7) (.mv (.tmp 0)) none [],.mk (some 8) (.bslice 1 [.int .i64 0] [(0,.const (.int .i64 2)),(1,.const (.int .i64 1)),(2,.const (.int .i64 3)),(3,.const (.int .i64 2)),(4,.const (.int .i64 0)),(5,.const (.int .i64 4))] 6) none [],.mk (some 9) (.call 54 [.tmp 7,.tmp 8]) none [0,1],.mk (some 4) (.mv (.tmp 9)) none [2,2,0,1,2]]
def l102r3 : List AOper :=
  [.mk (some 10) (.mv (.tmp 4)) none [],.mk (some 11) (.bin .gtr (.tmp 10) (.const (.int .i64 0))) none [0]]
def l102r4 : List AOper :=
  [.mk (some 14) (.mv (.tmp 0)) none [],.mk (some 15) (.bslice 1 [.int .i64 0] [(0,.const (.int .i64 2)),(1,.const (.int .i64 3)),(2,.const (.int .i64 1)),(3,.const (.int .i64 4)),(4,.const (.int .i64 2)),(5,.const (.int .i64 3)),(6,.const (.int .i64 5)),(7,.const (.int .i64 0))] 8) none [],.mk (some 16) (.call 54 [.tmp 14,.tmp 15]) none [0,1],.mk (some 5) (.mv (.tmp 16)) none [2,2,0,1,2]]
def l102r5 : List AOper :=
  [.mk (some 17) (.mv (.tmp 3)) none [],.mk (some 18) (.call 75 [.tmp 17]) none [0],.mk (some 19) (.mv (.tmp 5)) none [],.mk (some 20) (.bin .mul (.tmp 18) (.tmp 19)) none [1,2],.mk (some 21) (.bin .leq (.tmp 20) (.const (.int .i64 60))) none [3]]
def l102r6 : List AOper :=
  [.mk (some 22) (.mv (.tmp 3)) none [],.mk (some 23) (.mv (.tmp 5)) none [],.mk (some 24) (.bslice 1 [.int .i64 0] [(0,.tmp 23)] 1) none [1],.mk (some 25) (.append 1 (.tmp 22) (.tmp 24)) none [0,2],.mk (some 3) (.mv (.tmp 25)) none [3,3,0,1,2,3]]
def l102r7 : List AOper :=
  [.mk (some 12) (.mv (.tmp 4)) none [],.mk (some 13) (.bin .sub (.tmp 12) (.const (.int .i64 1))) none [0],.mk (some 4) (.mv (.tmp 13)) none [1,0,1]]
def l102r8 : List AOper :=
  [.mk (some 26) (.mv (.tmp 3)) none [],.mk (some 2) (.mv (.tmp 26)) none [0,0]]
def l102 : AFn :=
  (AFn.mk 27 1 (.seq (.reg l102r0) (.seq (.reg l102r1) (.seq (.seq (.reg l102r2) (.block 0 (.loop (.seq (.seq (.reg l102r3) (.cond (.tmp 11) .skip (.exit 0))) (.seq (.block 1 (.seq (.reg l102r4) (.seq (.reg l102r5) (.cond (.tmp 21) (.reg l102r6) .skip)))) (.reg l102r7)))))) (.seq (.reg l102r8) .ret)))) [.tmp 2])
theorem l102_eq : lowFn Try.prog 102 = some l102 := by kernel_rfl
def l103r0 : List AOper :=
  [.mk (some 2) (.box (.tmp 0)) none [],.mk (some 4) (.alloc [.int .i64 0,.slice none 0 0,.slice none 0 0]) none [],.mk (some 5) (.mv (.const (.bool false))) none []]
def l103r1 : List AOper :=
  [.mk (some 6) (.load true 3 (.tmp 2)) none [],.mk (some 7) (.call 48 [.tmp 6]) none [0],.mk (some 8) (.un .not (.tmp 7)) none [1],.mk (some 9) (.mv (.tmp 8)) none [2,1],.mk (some 10) (.mv (.tmp 1)) (some (9,false)) [3],.mk (some 11) (.fld 1 (.tmp 2)) (some (9,false)) [3],.mk (some 12) (.load false 1 (.tmp 11)) (some (9,false)) [5,3],.mk (some 13) (.len (.tmp 12)) (some (9,false)) [6,3],.mk (some 14) (.call 112 [.tmp 10,.tmp 13]) (some (9,false)) [4,7,3,3],.mk (some 15) (.un .not (.tmp 14)) (some (9,false)) [8,3],.mk (some 16) (.pick (.tmp 9) (.const (.bool true)) (.tmp 15)) none [3,9]]
def l103r2 : List AOper :=
  [.mk (some 17) (.build [.int .i64 0,.slice none 0 0,.slice none 0 0] []) none [],.mk none (.store 3 (.tmp 4) (.tmp 17)) none [0,0],.mk (some 5) (.mv (.const (.bool false))) none [1,0,1]]
def l103r3 : List AOper :=
  [.mk (some 18) (.load true 3 (.tmp 2)) none [],.mk (some 19) (.mv (.tmp 1)) none [],.mk (some 20) (.call 113 [.tmp 18,.tmp 19]) none [0,1],.mk (some 21) (.call 64 [.tmp 20]) none [2,2],.mk (some 22) (.extract (.tmp 21) 0) none [3],.mk (some 23) (.extract (.tmp 21) 1) none [3],.mk none (.store 3 (.tmp 4) (.tmp 22)) none [4,3,0,1,2,3,4,5],.mk (some 5) (.mv (.tmp 23)) none [5,6,0,1,2,3,4,5,6]]
def l103 : AFn :=
  (AFn.mk 24 2 (.seq (.reg l103r0) (.seq (.seq (.reg l103r1) (.cond (.tmp 16) (.seq (.reg l103r2) .ret) .skip)) (.seq (.reg l103r3) .ret))) [.cell 4 true 3,.tmp 5])
theorem l103_eq : lowFn Try.prog 103 = some l103 := by kernel_rfl
def l104r0 : List AOper :=
  [.mk (some 2) (.mv (.const (.slice none 0 0))) none []]
def l104r1 : List AOper :=
  [.mk (some 5) (.bslice 1 [.int .i64 0] [] 0) none [],.mk (some 3) (.mv (.tmp 5)) none [0,0]]
def l104r2 : List AOper :=
  [.mk (some 6) (.mv (.tmp 0)) none [],.mk (some 7) (.len (.tmp 6)) none [0],.mk (some 8) (.bin .sub (.tmp 7) (.const (.int .i64 1))) none [1],.mk (some 4) (.mv (.tmp 8)) none [2,0,1,2]]
def l104r3 : List AOper :=
  [.mk (some 9) (.mv (.tmp 4)) none [],.mk (some 10) (.bin .geq (.tmp 9) (.const (.int .i64 0))) none [0]]
def l104r4 : List AOper :=
  [.mk (some 13) (.mv (.tmp 3)) none [],.mk (some 14) (.mv (.tmp 0)) none [],.mk (some 15) (.mv (.tmp 4)) none [],.mk (some 16) (.idxA 1 (.tmp 14) (.tmp 15)) none [1,2],.mk (some 17) (.load false 1 (.tmp 16)) none [3],.mk (some 18) (.bslice 1 [.int .i64 0] [(0,.tmp 17)] 1) none [4],.mk (some 19) (.append 1 (.tmp 13) (.tmp 18)) none [0,5],.mk (some 3) (.mv (.tmp 19)) none [6,6,0,1,2,3,4,5,6]]
def l104r5 : List AOper :=
  [.mk (some 11) (.mv (.tmp 4)) none [],.mk (some 12) (.bin .sub (.tmp 11) (.const (.int .i64 1))) none [0],.mk (some 4) (.mv (.tmp 12)) none [1,0,1]]
def l104r6 : List AOper :=
  [.mk (some 20) (.mv (.tmp 3)) none [],.mk (some 2) (.mv (.tmp 20)) none [0,0]]
def l104 : AFn :=
  (AFn.mk 21 1 (.seq (.reg l104r0) (.seq (.reg l104r1) (.seq (.seq (.reg l104r2) (.block 0 (.loop (.seq (.seq (.reg l104r3) (.cond (.tmp 10) .skip (.exit 0))) (.seq (.block 1 (.reg l104r4)) (.reg l104r5)))))) (.seq (.reg l104r6) .ret)))) [.tmp 2])
theorem l104_eq : lowFn Try.prog 104 = some l104 := by kernel_rfl
def l105r0 : List AOper :=
  [.mk (some 2) (.mv (.const (.slice none 0 0))) none []]
def l105r1 : List AOper :=
  [.mk (some 5) (.bslice 1 [.int .i64 0] [] 0) none [],.mk (some 3) (.mv (.tmp 5)) none [0,0]]
def l105r2 : List AOper :=
  [.mk (some 4) (.mv (.const (.int .i64 0))) none []]
def l105r3 : List AOper :=
  [.mk (some 6) (.mv (.tmp 4)) none [],.mk (some 7) (.mv (.tmp 0)) none [],.mk (some 8) (.bin .lss (.tmp 6) (.tmp 7)) none [0,1]]
def l105r4 : List AOper :=
  [.mk (some 11) (.mv (.tmp 3)) none [],.mk (some 12) (.mv (.tmp 4)) none [],.mk (some 13) (.bslice 1 [.int .i64 0] [(0,.tmp 12)] 1) none [1],.mk (some 14) (.append 1 (.tmp 11) (.tmp 13)) none [0,2],.mk (some 3) (.mv (.tmp 14)) none [3,3,0,1,2,3]]
def l105r5 : List AOper :=
  [.mk (some 9) (.mv (.tmp 4)) none [],.mk (some 10) (.bin .add (.tmp 9) (.const (.int .i64 1))) none [0],.mk (some 4) (.mv (.tmp 10)) none [1,0,1]]
def l105r6 : List AOper :=
  [.mk (some 15) (.mv (.tmp 3)) none [],.mk (some 2) (.mv (.tmp 15)) none [0,0]]
def l105 : AFn :=
  (AFn.mk 16 1 (.seq (.reg l105r0) (.seq (.reg l105r1) (.seq (.seq (.reg l105r2) (.block 0 (.loop (.seq (.seq (.reg l105r3) (.cond (.tmp 8) .skip (.exit 0))) (.seq (.block 1 (.reg l105r4)) (.reg l105r5)))))) (.seq (.reg l105r6) .ret)))) [.tmp 2])
theorem l105_eq : lowFn Try.prog 105 = some l105 := by kernel_rfl
def l106r0 : List AOper :=
  [.mk (some 3) (.box (.tmp 0)) none [],.mk (some 6) (.alloc [.int .i64 0,.slice none 0 0,.slice none 0 0]) none [],.mk (some 7) (.mv (.const (.bool false))) none []]
def l106r1 : List AOper :=
  [.mk (some 9) (.load true 3 (.tmp 3)) none [],.mk (some 10) (.call 48 [.tmp 9]) none [0],.mk (some 11) (.un .not (.tmp 10)) none [1],.mk (some 12) (.mv (.tmp 11)) none [2,1],.mk (some 13) (.load true 3 (.tmp 3)) (some (12,false)) [3],.mk (some 14) (.mv (.tmp 1)) (some (12,false)) [3],.mk (some 15) (.call 62 [.tmp 13,.tmp 14]) (some (12,false)) [4,5,3,3],.mk (some 16) (.un .not (.tmp 15)) (some (12,false)) [6,3],.mk (some 17) (.pick (.tmp 12) (.const (.bool true)) (.tmp 16)) none [3,7],.mk (some 18) (.mv (.tmp 17)) none [8,6],.mk (some 19) (.mv (.tmp 2)) (some (18,false)) [9],.mk (some 20) (.fld 1 (.tmp 3)) (some (18,false)) [9],.mk (some 21) (.load false 1 (.tmp 20)) (some (18,false)) [11,9],.mk (some 22) (.mv (.tmp 1)) (some (18,false)) [9],.mk (some 23) (.idxA 1 (.tmp 21) (.tmp 22)) (some (18,false)) [12,13,9],.mk (some 24) (.load false 1 (.tmp 23)) (some (18,false)) [14,9],.mk (some 25) (.call 84 [.tmp 19,.const (.int .i64 1),.tmp 24]) (some (18,false)) [10,15,9,9],.mk (some 26) (.un .not (.tmp 25)) (some (18,false)) [16,9],.mk (some 27) (.pick (.tmp 18) (.const (.bool true)) (.tmp 26)) none [9,17]]
def l106r2 : List AOper :=
  [.mk (some 28) (.build [.int .i64 0,.slice none 0 0,.slice none 0 0] []) none [],.mk none (.store 3 (.tmp 6) (.tmp 28)) none [0,0],.mk (some 7) (.mv (.const (.bool false))) none [1,0,1]]
def l106r3 : List AOper :=
  [.mk (some 29) (.load true 3 (.tmp 3)) none [],.mk (some 30) (.call 70 [.tmp 29]) none [0],.mk (some 8) (.alloc [.int .i64 0,.slice none 0 0,.slice none 0 0]) none [],.mk none (.store 3 (.tmp 8) (.tmp 30)) none [2,1,1,0,1,2]]
def l106r4a : List AOper :=
  [.mk (some 31) (.fld 1 (.tmp 8)) none [],.mk (some 32) (.load false 1 (.tmp 31)) none [0],.mk (some 33) (.mv (.tmp 1)) none [],.mk (some 34) (.fld 1 (.tmp 3)) none [],.mk (some 35) (.load false 1 (.tmp 34)) none [3],.mk (some 36) (.mv (.tmp 1)) none [],.mk (some 37) (.idxA 1 (.tmp 35) (.tmp 36)) none [4,5],.mk (some 38) (.load false 1 (.tmp 37)) none [6],.mk (some 39) (.mv (.tmp 2)) none [],.mk (some 40) (.bin .sub (.tmp 38) (.tmp 39)) none [7,8],.mk (some 41) (.bin .add (.tmp 40) (.const (.int .i64 1))) none [9]]
def l106r4b : List AOper :=
  [.mk (some 42) (.idxA 1 (.tmp 32) (.tmp 33)) none [1,2,0,1,2,3,4,5,6,7,8,9,10],.mk none (.store 1 (.tmp 42) (.tmp 41)) none [11,10,0,1,2,3,4,5,6,7,8,9,10]]
def l106r4 : List AOper := l106r4a ++ l106r4b
def l106r5 : List AOper :=
  [.mk (some 43) (.fld 1 (.tmp 8)) none [],.mk (some 44) (.load false 1 (.tmp 43)) none [0],.mk (some 45) (.mv (.tmp 2)) none [],.mk (some 46) (.bslice 1 [.int .i64 0] [(0,.tmp 45)] 1) none [2],.mk (some 47) (.append 1 (.tmp 44) (.tmp 46)) none [1,3],.mk (some 48) (.fld 1 (.tmp 8)) none [0,1,2,3,4],.mk none (.store 1 (.tmp 48) (.tmp 47)) none [5,4,4,0,1,2,3,4]]
def l106r6a : List AOper :=
  [.mk (some 49) (.fld 2 (.tmp 8)) none [],.mk (some 50) (.load false 1 (.tmp 49)) none [0],.mk (some 51) (.fld 2 (.tmp 3)) none [],.mk (some 52) (.load false 1 (.tmp 51)) none [2],.mk (some 53) (.mv (.tmp 1)) none [],.mk (some 54) (.idxA 1 (.tmp 52) (.tmp 53)) none [3,4],.mk (some 55) (.load false 1 (.tmp 54)) none [5],.mk (some 56) (.bslice 1 [.int .i64 0] [(0,.tmp 55)] 1) none [6]]
def l106r6b : List AOper :=
  [.mk (some 57) (.append 1 (.tmp 50) (.tmp 56)) none [1,7],.mk (some 58) (.fld 2 (.tmp 8)) none [0,1,2,3,4,5,6,7,8],.mk none (.store 1 (.tmp 58) (.tmp 57)) none [9,8,8,0,1,2,3,4,5,6,7,8]]
def l106r6 : List AOper := l106r6a ++ l106r6b
def l106r7 : List AOper :=
  [.mk (some 59) (.load true 3 (.tmp 8)) none [],.mk (some 60) (.call 64 [.tmp 59]) none [0],.mk (some 61) (.extract (.tmp 60) 0) none [1],.mk (some 62) (.extract (.tmp 60) 1) none [1],.mk none (.store 3 (.tmp 6) (.tmp 61)) none [2,1,0,1,2,3],.mk (some 7) (.mv (.tmp 62)) none [3,4,0,1,2,3,4]]
def l106 : AFn :=
  (AFn.mk 63 3 (.seq (.reg l106r0) (.seq (.seq (.reg l106r1) (.cond (.tmp 27) (.seq (.reg l106r2) .ret) .skip)) (.seq (.reg l106r3) (.seq (.draw l106r4) (.seq (.reg l106r5) (.seq (.draw l106r6) (.seq (.reg l106r7) .ret))))))) [.cell 6 true 3,.tmp 7])
theorem l106_eq : lowFn Try.prog 106 = some l106 := by kernel_rfl
def l107r0 : List AOper :=
  [.mk (some 2) (.box (.tmp 0)) none [],.mk (some 4) (.alloc [.int .i64 0,.slice none 0 0,.slice none 0 0]) none [],.mk (some 5) (.mv (.const (.bool false))) none []]
def l107r1 : List AOper :=
  [.mk (some 6) (.load true 3 (.tmp 2)) none [],.mk (some 7) (.call 48 [.tmp 6]) none [0],.mk (some 8) (.un .not (.tmp 7)) none [1],.mk (some 9) (.mv (.tmp 8)) none [2,1],.mk (some 10) (.mv (.tmp 1)) (some (9,false)) [3],.mk (some 11) (.fld 1 (.tmp 2)) (some (9,false)) [3],.mk (some 12) (.load false 1 (.tmp 11)) (some (9,false)) [5,3],.mk (some 13) (.len (.tmp 12)) (some (9,false)) [6,3],.mk (some 14) (.call 84 [.tmp 10,.const (.int .i64 0),.tmp 13]) (some (9,false)) [4,7,3,3],.mk (some 15) (.un .not (.tmp 14)) (some (9,false)) [8,3],.mk (some 16) (.pick (.tmp 9) (.const (.bool true)) (.tmp 15)) none [3,9],.mk (some 17) (.mv (.tmp 16)) none [10,8],.mk (some 18) (.fld 1 (.tmp 2)) (some (17,false)) [11],.mk (some 19) (.load false 1 (.tmp 18)) (some (17,false)) [12,11],.mk (some 20) (.len (.tmp 19)) (some (17,false)) [13,11],.mk (some 21) (.bin .eql (.tmp 20) (.const (.int .i64 4))) (some (17,false)) [14,11],.mk (some 22) (.pick (.tmp 17) (.const (.bool true)) (.tmp 21)) none [11,15]]
def l107r2 : List AOper :=
  [.mk (some 23) (.build [.int .i64 0,.slice none 0 0,.slice none 0 0] []) none [],.mk none (.store 3 (.tmp 4) (.tmp 23)) none [0,0],.mk (some 5) (.mv (.const (.bool false))) none [1,0,1]]
def l107r3a : List AOper :=
  [.mk (some 24) (.fld 0 (.tmp 2)) none [],.mk (some 25) (.load false 1 (.tmp 24)) none [0],.mk (some 26) (.fld 1 (.tmp 2)) none [],.mk (some 27) (.load false 1 (.tmp 26)) none [2],.mk (some 28) (.mv (.tmp 1)) none [],.mk (some 29) (.call 114 [.tmp 27,.tmp 28,.const (.int .i64 1)]) none [3,4],.mk (some 30) (.fld 2 (.tmp 2)) none [],.mk (some 31) (.load false 1 (.tmp 30)) none [6],.mk (some 32) (.mv (.tmp 1)) none [],.mk (some 33) (.call 114 [.tmp 31,.tmp 32,.const (.int .i64 0)]) none [7,8,5],.mk (some 34) (.build [.int .i64 0,.slice none 0 0,.slice none 0 0] [(0,1,.tmp 25),(1,1,.tmp 29),(2,1,.tmp 33)]) none [1,5,9],.mk (some 35) (.call 64 [.tmp 34]) none [10,9],.mk (some 36) (.extract (.tmp 35) 0) none [11],.mk (some 37) (.extract (.tmp 35) 1) none [11]]
def l107r3b : List AOper :=
  [.mk none (.store 3 (.tmp 4) (.tmp 36)) none [12,11,0,1,2,3,4,5,6,7,8,9,10,11,12,13],.mk (some 5) (.mv (.tmp 37)) none [13,14,0,1,2,3,4,5,6,7,8,9,10,11,12,13,14]]
def l107r3 : List AOper := l107r3a ++ l107r3b
def l107 : AFn :=
  (AFn.mk 38 2 (.seq (.reg l107r0) (.seq (.seq (.reg l107r1) (.cond (.tmp 22) (.seq (.reg l107r2) .ret) .skip)) (.seq (.draw l107r3) .ret))) [.cell 4 true 3,.tmp 5])
theorem l107_eq : lowFn Try.prog 107 = some l107 := by kernel_rfl
def l108r0 : List AOper :=
  [.mk (some 6) (.mv (.const (.int .i64 0))) none []]
def l108r1 : List AOper :=
  [.mk (some 7) (.mv (.const (.int .i64 0))) none []]
def l108r2 : List AOper :=
  [.mk (some 9) (.mv (.tmp 0)) none [],.mk (some 8) (.mv (.tmp 9)) none [0,0]]
def l108r3 : List AOper :=
  [.mk (some 10) (.mv (.tmp 2)) none [],.mk (some 11) (.bin .lss (.tmp 10) (.const (.int .i64 0))) none [0]]
def l108r4 : List AOper :=
  [.mk (some 7) (.mv (.const (.int .i64 (-1)))) none []]
def l108r5 : List AOper :=
  [.mk (some 12) (.mv (.tmp 0)) none [],.mk (some 13) (.bin .sub (.tmp 12) (.const (.int .i64 1))) none [0],.mk (some 8) (.mv (.tmp 13)) none [1,0,1]]
def l108r6 : List AOper :=
  [.mk (some 14) (.mv (.tmp 1)) none [],.mk (some 15) (.bin .lss (.tmp 14) (.const (.int .i64 0))) none [0]]
def l108r7 : List AOper :=
  [.mk (some 16) (.mv (.tmp 1)) none [],.mk (some 17) (.mv (.tmp 0)) none [],.mk (some 18) (.bin .add (.tmp 16) (.tmp 17)) none [0,1],.mk (some 1) (.mv (.tmp 18)) none [2,0,1,2]]
def l108r8 : List AOper :=
  [.mk (some 19) (.mv (.tmp 8)) none [],.mk (some 20) (.mv (.tmp 7)) none [],.mk (some 21) (.mv (.tmp 1)) none [],.mk (some 22) (.minmax true (.tmp 20) (.tmp 21)) none [1,2],.mk (some 23) (.minmax false (.tmp 19) (.tmp 22)) none [0,3],.mk (some 6) (.mv (.tmp 23)) none [4,0,1,2,3,4]]
def l108 : AFn :=
  (AFn.mk 24 3 (.seq (.reg l108r0) (.seq (.reg l108r1) (.seq (.reg l108r2) (.seq (.seq (.reg l108r3) (.cond (.tmp 11) (.seq (.reg l108r4) (.reg l108r5)) .skip)) (.seq (.seq (.reg l108r6) (.cond (.tmp 15) (.reg l108r7) .skip)) (.seq (.reg l108r8) .ret)))))) [.tmp 6])
theorem l108_eq : lowFn Try.prog 108 = some l108 := by kernel_rfl
def l111r0 : List AOper :=
  [.mk (some 2) (.mv (.const (.slice none 0 0))) none []]
def l111r1 : List AOper :=
  [.mk (some 6) (.mv (.tmp 0)) none [],.mk (some 7) (.len (.tmp 6)) none [0],.mk (some 8) (.mkslice 1 [.int .i64 0] (.tmp 7) (.tmp 7)) none [1,1],.mk (some 3) (.mv (.tmp 8)) none [2,0,1,2]]
def l111r2 : List AOper :=
  [.mk (some 4) (.mv (.const (.int .i64 1))) none []]
def l111r3 : List AOper :=
  [.mk (some 9) (.mv (.tmp 0)) none [],.mk (some 10) (.len (.tmp 9)) none [0],.mk (some 11) (.bin .sub (.tmp 10) (.const (.int .i64 1))) none [1],.mk (some 5) (.mv (.tmp 11)) none [2,0,1,2]]
def l111r4 : List AOper :=
  [.mk (some 12) (.mv (.tmp 5)) none [],.mk (some 13) (.bin .geq (.tmp 12) (.const (.int .i64 0))) none [0]]
def l111r5 : List AOper :=
  [.mk (some 16) (.mv (.tmp 3)) none [],.mk (some 17) (.mv (.tmp 5)) none [],.mk (some 18) (.mv (.tmp 4)) none [],.mk (some 19) (.idxA 1 (.tmp 16) (.tmp 17)) none [0,1,0,1,2],.mk none (.store 1 (.tmp 19) (.tmp 18)) none [3,2,0,1,2]]
def l111r6 : List AOper :=
  [.mk (some 20) (.mv (.tmp 4)) none [],.mk (some 21) (.mv (.tmp 0)) none [],.mk (some 22) (.mv (.tmp 5)) none [],.mk (some 23) (.idxA 1 (.tmp 21) (.tmp 22)) none [1,2],.mk (some 24) (.load false 1 (.tmp 23)) none [3],.mk (some 25) (.bin .mul (.tmp 20) (.tmp 24)) none [0,4],.mk (some 4) (.mv (.tmp 25)) none [5,0,1,2,3,4,5]]
def l111r7 : List AOper :=
  [.mk (some 14) (.mv (.tmp 5)) none [],.mk (some 15) (.bin .sub (.tmp 14) (.const (.int .i64 1))) none [0],.mk (some 5) (.mv (.tmp 15)) none [1,0,1]]
def l111r8 : List AOper :=
  [.mk (some 26) (.mv (.tmp 3)) none [],.mk (some 2) (.mv (.tmp 26)) none [0,0]]
def l111 : AFn :=
  (AFn.mk 27 1 (.seq (.reg l111r0) (.seq (.reg l111r1) (.seq (.reg l111r2) (.seq (.seq (.reg l111r3) (.block 0 (.loop (.seq (.seq (.reg l111r4) (.cond (.tmp 13) .skip (.exit 0))) (.seq (.block 1 (.seq (.reg l111r5) (.reg l111r6))) (.reg l111r7)))))) (.seq (.reg l111r8) .ret))))) [.tmp 2])
theorem l111_eq : lowFn Try.prog 111 = some l111 := by kernel_rfl
def l112r0 : List AOper :=
  [.mk (some 4) (.mv (.const (.bool false))) none []]
def l112r1 : List AOper :=
  [.mk (some 5) (.mv (.tmp 0)) none [],.mk (some 6) (.len (.tmp 5)) none [0],.mk (some 7) (.mv (.tmp 1)) none [],.mk (some 8) (.bin .eql (.tmp 6) (.tmp 7)) none [1,2],.mk (some 9) (.mv (.tmp 8)) none [3],.mk (some 10) (.mv (.tmp 0)) (some (9,true)) [4],.mk (some 11) (.mv (.tmp 1)) (some (9,true)) [4],.mk (some 12) (.bin .sub (.tmp 11) (.const (.int .i64 1))) (some (9,true)) [6,4],.mk (some 13) (.call 83 [.tmp 10,.const (.int .i64 0),.tmp 12]) (some (9,true)) [5,7,4,4],.mk (some 14) (.pick (.tmp 9) (.tmp 13) (.const (.bool false))) none [4,8],.mk (some 15) (.mv (.tmp 14)) none [9,8],.mk (some 16) (.mv (.tmp 0)) (some (15,true)) [10],.mk (some 17) (.call 52 [.tmp 16]) (some (15,true)) [11,10,10],.mk (some 18) (.pick (.tmp 15) (.tmp 17) (.const (.bool false))) none [10,12],.mk (some 4) (.mv (.tmp 18)) none [13,12,0,1,2,3,4,5,6,7,8,9,10,11,12,13]]
def l112 : AFn :=
  (AFn.mk 19 2 (.seq (.reg l112r0) (.seq (.reg l112r1) .ret)) [.tmp 4])
theorem l112_eq : lowFn Try.prog 112 = some l112 := by kernel_rfl
def l113r0 : List AOper :=
  [.mk (some 2) (.box (.tmp 0)) none [],.mk (some 4) (.alloc [.int .i64 0,.slice none 0 0,.slice none 0 0]) none []]
def l113r1 : List AOper :=
  [.mk (some 7) (.fld 0 (.tmp 2)) none [],.mk (some 8) (.load false 1 (.tmp 7)) none [0],.mk (some 9) (.build [.int .i64 0,.slice none 0 0,.slice none 0 0] [(0,1,.tmp 8)]) none [1],.mk (some 5) (.alloc [.int .i64 0,.slice none 0 0,.slice none 0 0]) none [],.mk none (.store 3 (.tmp 5) (.tmp 9)) none [3,2,0,1,2,3]]
def l113r2 : List AOper :=
  [.mk (some 6) (.mv (.const (.int .i64 0))) none []]
def l113r3 : List AOper :=
  [.mk (some 10) (.mv (.tmp 6)) none [],.mk (some 11) (.mv (.tmp 1)) none [],.mk (some 12) (.len (.tmp 11)) none [1],.mk (some 13) (.bin .lss (.tmp 10) (.tmp 12)) none [0,2]]
def l113r4a : List AOper :=
  [.mk (some 16) (.fld 1 (.tmp 5)) none [],.mk (some 17) (.load false 1 (.tmp 16)) none [0],.mk (some 18) (.fld 1 (.tmp 2)) none [],.mk (some 19) (.load false 1 (.tmp 18)) none [2],.mk (some 20) (.mv (.tmp 1)) none [],.mk (some 21) (.mv (.tmp 6)) none [],.mk (some 22) (.idxA 1 (.tmp 20) (.tmp 21)) none [4,5],.mk (some 23) (.load false 1 (.tmp 22)) none [6],.mk (some 24) (.idxA 1 (.tmp 19) (.tmp 23)) none [3,7],.mk (some 25) (.load false 1 (.tmp 24)) none [8],.mk (some 26) (.bslice 1 [.int .i64 0] [(0,.tmp 25)] 1) none [9]]
def l113r4b : List AOper :=
  [.mk (some 27) (.append 1 (.tmp 17) (.tmp 26)) none [1,10],.mk (some 28) (.fld 1 (.tmp 5)) none [0,1,2,3,4,5,6,7,8,9,10,11],.mk none (.store 1 (.tmp 28) (.tmp 27)) none [12,11,11,0,1,2,3,4,5,6,7,8,9,10,11]]
def l113r4 : List AOper := l113r4a ++ l113r4b
def l113r5a : List AOper :=
  [.mk (some 29) (.fld 2 (.tmp 5)) none [],.mk (some 30) (.load false 1 (.tmp 29)) none [0],.mk (some 31) (.fld 2 (.tmp 2)) none [],.mk (some 32) (.load false 1 (.tmp 31)) none [2],.mk (some 33) (.mv (.tmp 1)) none [],.mk (some 34) (.mv (.tmp 6)) none [],.mk (some 35) (.idxA 1 (.tmp 33) (.tmp 34)) none [4,5],.mk (some 36) (.load false 1 (.tmp 35)) none [6],.mk (some 37) (.idxA 1 (.tmp 32) (.tmp 36)) none [3,7],.mk (some 38) (.load false 1 (.tmp 37)) none [8],.mk (some 39) (.bslice 1 [.int .i64 0] [(0,.tmp 38)] 1) none [9]]
def l113r5b : List AOper :=
  [.mk (some 40) (.append 1 (.tmp 30) (.tmp 39)) none [1,10],.mk (some 41) (.fld 2 (.tmp 5)) none [0,1,2,3,4,5,6,7,8,9,10,11],.mk none (.store 1 (.tmp 41) (.tmp 40)) none [12,11,11,0,1,2,3,4,5,6,7,8,9,10,11]]
def l113r5 : List AOper := l113r5a ++ l113r5b
def l113r6 : List AOper :=
  [.mk (some 14) (.mv (.tmp 6)) none [],.mk (some 15) (.bin .add (.tmp 14) (.const (.int .i64 1))) none [0],.mk (some 6) (.mv (.tmp 15)) none [1,0,1]]
def l113r7 : List AOper :=
  [.mk (some 42) (.load true 3 (.tmp 5)) none [],.mk none (.store 3 (.tmp 4) (.tmp 42)) none [0,0]]
def l113 : AFn :=
  (AFn.mk 43 2 (.seq (.reg l113r0) (.seq (.reg l113r1) (.seq (.seq (.reg l113r2) (.block 0 (.loop (.seq (.seq (.reg l113r3) (.cond (.tmp 13) .skip (.exit 0))) (.seq (.block 1 (.seq (.draw l113r4) (.draw l113r5))) (.reg l113r6)))))) (.seq (.reg l113r7) .ret)))) [.cell 4 true 3])
theorem l113_eq : lowFn Try.prog 113 = some l113 := by kernel_rfl
def l114r0 : List AOper :=
  [.mk (some 6) (.mv (.const (.slice none 0 0))) none []]
def l114r1a : List AOper :=
  [.mk (some 7) (.bslice 1 [.int .i64 0] [] 0) none [],.mk (some 8) (.mv (.tmp 0)) none [],.mk (some 9) (.mv (.tmp 1)) none [],.mk (some 10) (.slice 1 (.tmp 8) none (some (.tmp 9))) none [1,2],.mk (some 11) (.append 1 (.tmp 7) (.tmp 10)) none [0,3],.mk (some 12) (.mv (.tmp 2)) none [],.mk (some 13) (.bslice 1 [.int .i64 0] [(0,.tmp 12)] 1) none [5],.mk (some 14) (.append 1 (.tmp 11) (.tmp 13)) none [4,6,4],.mk (some 15) (.mv (.tmp 0)) none [],.mk (some 16) (.mv (.tmp 1)) none [],.mk (some 17) (.slice 1 (.tmp 15) (some (.tmp 16)) none) none [8,9]]
def l114r1b : List AOper :=
  [.mk (some 18) (.append 1 (.tmp 14) (.tmp 17)) none [7,10,7],.mk (some 6) (.mv (.tmp 18)) none [11,11,0,1,2,3,4,5,6,7,8,9,10,11]]
def l114r1 : List AOper := l114r1a ++ l114r1b
def l114 : AFn :=
  (AFn.mk 19 3 (.seq (.reg l114r0) (.seq (.draw l114r1) .ret)) [.tmp 6])
theorem l114_eq : lowFn Try.prog 114 = some l114 := by kernel_rfl
end Go.Proofs.Ytfphjgmkpgoomaa
