import Derived.Test.YtbhkcmiphmaefaaCW3
import Derived.Test.YtbhkcmiphmaefaaProg
import Derived.KernelRfl
set_option maxRecDepth 100000
namespace Go.Proofs.Ytbhkcmiphmaefaa
open Vw Go
def l5r0 : List AOper :=
  [AOper.mk (some 2) (.box (.tmp 0)) none [], AOper.mk (some 4) (.mv (.const (.bool false))) none []]
def l5r1 : List AOper :=
  [AOper.mk (some 17) (.mv (.tmp 1)) none [], AOper.mk (some 18) (.len (.tmp 17)) none [0], AOper.mk (some 19) (.bin .gtr (.tmp 18) (.const (.int .i64 1048576))) none [1]]
def l5r2 : List AOper :=
  [AOper.mk (some 4) (.mv (.const (.bool true))) none []]
def l5r3 : List AOper :=
  [AOper.mk (some 5) (.mv (.const (.int .i64 1048576))) none []]
def l5r4 : List AOper :=
  [AOper.mk (some 20) (.load true 3 (.tmp 2)) none [], AOper.mk (some 21) (.mv (.tmp 5)) none [], AOper.mk (some 22) (.call 9 [.tmp 20, .tmp 21]) none [0, 1], AOper.mk (some 5) (.mv (.tmp 22)) none [2, 2, 0, 1, 2]]
def l5r5 : List AOper :=
  [AOper.mk (some 23) (.mv (.tmp 5)) none [], AOper.mk (some 24) (.bin .lss (.tmp 23) (.const (.int .i64 0))) none [0]]
def l5r6 : List AOper :=
  [AOper.mk (some 4) (.mv (.const (.bool true))) none []]
def l5r7 : List AOper :=
  [AOper.mk (some 26) (.load true 3 (.tmp 2)) none [], AOper.mk (some 27) (.call 11 [.tmp 26]) none [0], AOper.mk (some 28) (.mv (.tmp 1)) none [], AOper.mk (some 29) (.call 17 [.tmp 28]) none [2, 1], AOper.mk (some 30) (.call 22 [.tmp 27, .tmp 29]) none [1, 3, 3], AOper.mk (some 25) (.mv (.tmp 30)) none [4], AOper.mk (some 31) (.extract (.tmp 25) 0) none [5], AOper.mk (some 32) (.extract (.tmp 25) 1) none [5], AOper.mk (some 6) (.alloc [.int .i64 0, .slice none 0 0, .slice none 0 0]) none [], AOper.mk none (.store 3 (.tmp 6) (.tmp 31)) none [8, 6, 4, 0, 1, 2, 3, 4, 5, 6, 8], AOper.mk (some 7) (.mv (.tmp 32)) none [7, 9, 0, 1, 2, 3, 4, 5, 6, 7, 8, 9]]
def l5r8 : List AOper :=
  [AOper.mk (some 33) (.load true 3 (.tmp 2)) none [], AOper.mk (some 34) (.call 11 [.tmp 33]) none [0], AOper.mk (some 8) (.alloc [.int .i64 0, .slice none 0 0, .slice none 0 0]) none [], AOper.mk none (.store 3 (.tmp 8) (.tmp 34)) none [2, 1, 1, 0, 1, 2]]
def l5r9 : List AOper :=
  [AOper.mk (some 35) (.mv (.tmp 1)) none [], AOper.mk (some 36) (.call 17 [.tmp 35]) none [0], AOper.mk (some 9) (.mv (.tmp 36)) none [1, 1, 0, 1]]
def l5r10 : List AOper :=
  [AOper.mk (some 38) (.load true 3 (.tmp 8)) none [], AOper.mk (some 39) (.mv (.tmp 9)) none [], AOper.mk (some 40) (.call 23 [.tmp 38, .tmp 39]) none [0, 1], AOper.mk (some 37) (.mv (.tmp 40)) none [2], AOper.mk (some 41) (.extract (.tmp 37) 0) none [3], AOper.mk (some 42) (.extract (.tmp 37) 1) none [3], AOper.mk (some 10) (.alloc [.int .i64 0, .slice none 0 0, .slice none 0 0]) none [], AOper.mk none (.store 3 (.tmp 10) (.tmp 41)) none [6, 4, 2, 0, 1, 2, 3, 4, 6], AOper.mk (some 11) (.mv (.tmp 42)) none [5, 7, 0, 1, 2, 3, 4, 5, 6, 7]]
def l5r11 : List AOper :=
  [AOper.mk (some 43) (.load true 3 (.tmp 10)) none [], AOper.mk (some 44) (.load true 3 (.tmp 6)) none [], AOper.mk (some 45) (.call 13 [.tmp 43, .tmp 44]) none [0, 1], AOper.mk (some 46) (.un .not (.tmp 45)) none [2], AOper.mk (some 47) (.mv (.tmp 46)) none [3, 2], AOper.mk (some 48) (.mv (.tmp 11)) (some (47, false)) [4], AOper.mk (some 49) (.mv (.tmp 7)) (some (47, false)) [4], AOper.mk (some 50) (.binB .neq (.tmp 48) (.tmp 49)) (some (47, false)) [5, 6, 4], AOper.mk (some 51) (.pick (.tmp 47) (.const (.bool true)) (.tmp 50)) none [4, 7]]
def l5r12 : List AOper :=
  [AOper.mk (some 4) (.mv (.const (.bool false))) none []]
def l5r13a : List AOper :=
  [AOper.mk (some 52) (.load true 3 (.tmp 8)) none [], AOper.mk (some 53) (.load true 3 (.tmp 2)) none [], AOper.mk (some 54) (.call 11 [.tmp 53]) none [1]]
def l5r13b : List AOper :=
  [AOper.mk (some 55) (.call 13 [.tmp 52, .tmp 54]) none [0, 2, 2], AOper.mk (some 56) (.un .not (.tmp 55)) none [3]]
def l5r13 : List AOper := l5r13a ++ l5r13b
def l5r14 : List AOper :=
  [AOper.mk (some 4) (.mv (.const (.bool false))) none []]
def l5r15 : List AOper :=
  [AOper.mk (some 57) (.mv (.tmp 9)) none [], AOper.mk (some 58) (.mv (.tmp 1)) none [], AOper.mk (some 59) (.call 17 [.tmp 58]) none [1], AOper.mk (some 60) (.call 19 [.tmp 57, .tmp 59]) none [0, 2, 2], AOper.mk (some 61) (.un .not (.tmp 60)) none [3]]
def l5r16 : List AOper :=
  [AOper.mk (some 4) (.mv (.const (.bool false))) none []]
def l5r17 : List AOper :=
  [AOper.mk (some 12) (.mv (.const (.int .i64 1))) none []]
def l5r18 : List AOper :=
  [AOper.mk (some 62) (.load true 3 (.tmp 8)) none [], AOper.mk (some 63) (.mv (.tmp 12)) none [], AOper.mk (some 64) (.call 14 [.tmp 62, .tmp 63]) none [0, 1], AOper.mk (some 12) (.mv (.tmp 64)) none [2, 2, 0, 1, 2]]
def l5r19 : List AOper :=
  [AOper.mk (some 65) (.mv (.tmp 9)) none [], AOper.mk (some 66) (.mv (.tmp 12)) none [], AOper.mk (some 67) (.call 20 [.tmp 65, .tmp 66]) none [0, 1], AOper.mk (some 12) (.mv (.tmp 67)) none [2, 2, 0, 1, 2]]
def l5r20 : List AOper :=
  [AOper.mk (some 68) (.mv (.tmp 12)) none [], AOper.mk (some 69) (.bin .lss (.tmp 68) (.const (.int .i64 0))) none [0], AOper.mk (some 70) (.mv (.tmp 69)) none [1], AOper.mk (some 71) (.load true 3 (.tmp 10)) (some (70, false)) [2], AOper.mk (some 72) (.load true 3 (.tmp 6)) (some (70, false)) [2], AOper.mk (some 73) (.call 13 [.tmp 71, .tmp 72]) (some (70, false)) [3, 4, 2, 2], AOper.mk (some 74) (.un .not (.tmp 73)) (some (70, false)) [5, 2], AOper.mk (some 75) (.pick (.tmp 70) (.const (.bool true)) (.tmp 74)) none [2, 6], AOper.mk (some 76) (.mv (.tmp 75)) none [7, 5], AOper.mk (some 77) (.mv (.tmp 11)) (some (76, false)) [8], AOper.mk (some 78) (.mv (.tmp 7)) (some (76, false)) [8], AOper.mk (some 79) (.binB .neq (.tmp 77) (.tmp 78)) (some (76, false)) [9, 10, 8], AOper.mk (some 80) (.pick (.tmp 76) (.const (.bool true)) (.tmp 79)) none [8, 11]]
def l5r21 : List AOper :=
  [AOper.mk (some 4) (.mv (.const (.bool false))) none []]
def l5r22 : List AOper :=
  [AOper.mk (some 13) (.mv (.const (.int .i64 1))) none []]
def l5r23 : List AOper :=
  [AOper.mk (some 81) (.load true 3 (.tmp 10)) none [], AOper.mk (some 82) (.mv (.tmp 13)) none [], AOper.mk (some 83) (.call 14 [.tmp 81, .tmp 82]) none [0, 1], AOper.mk (some 13) (.mv (.tmp 83)) none [2, 2, 0, 1, 2]]
def l5r24 : List AOper :=
  [AOper.mk (some 14) (.mv (.const (.int .i64 1))) none []]
def l5r25 : List AOper :=
  [AOper.mk (some 84) (.load true 3 (.tmp 10)) none [], AOper.mk (some 85) (.mv (.tmp 14)) none [], AOper.mk (some 86) (.call 15 [.tmp 84, .tmp 85]) none [0, 1], AOper.mk (some 14) (.mv (.tmp 86)) none [2, 2, 0, 1, 2]]
def l5r26 : List AOper :=
  [AOper.mk (some 87) (.mv (.tmp 14)) none [], AOper.mk (some 88) (.bin .lss (.tmp 87) (.const (.int .i64 0))) none [0]]
def l5r27 : List AOper :=
  [AOper.mk (some 4) (.mv (.const (.bool false))) none []]
def l5r28 : List AOper :=
  [AOper.mk (some 89) (.mv (.tmp 14)) none [], AOper.mk (some 90) (.mv (.tmp 13)) none [], AOper.mk (some 91) (.bin .neq (.tmp 89) (.tmp 90)) none [0, 1]]
def l5r29 : List AOper :=
  [AOper.mk (some 4) (.mv (.const (.bool false))) none []]
def l5r30 : List AOper :=
  [AOper.mk (some 93) (.load true 3 (.tmp 2)) none [], AOper.mk (some 94) (.call 11 [.tmp 93]) none [0], AOper.mk (some 95) (.mv (.tmp 1)) none [], AOper.mk (some 96) (.call 17 [.tmp 95]) none [2, 1], AOper.mk (some 97) (.call 23 [.tmp 94, .tmp 96]) none [1, 3, 3], AOper.mk (some 92) (.mv (.tmp 97)) none [4], AOper.mk (some 98) (.extract (.tmp 92) 0) none [5], AOper.mk (some 99) (.extract (.tmp 92) 1) none [5], AOper.mk (some 15) (.alloc [.int .i64 0, .slice none 0 0, .slice none 0 0]) none [], AOper.mk none (.store 3 (.tmp 15) (.tmp 98)) none [8, 6, 4, 0, 1, 2, 3, 4, 5, 6, 8], AOper.mk (some 16) (.mv (.tmp 99)) none [7, 9, 0, 1, 2, 3, 4, 5, 6, 7, 8, 9]]
def l5r31 : List AOper :=
  [AOper.mk (some 100) (.load true 3 (.tmp 15)) none [], AOper.mk (some 101) (.load true 3 (.tmp 6)) none [], AOper.mk (some 102) (.call 13 [.tmp 100, .tmp 101]) none [0, 1], AOper.mk (some 103) (.un .not (.tmp 102)) none [2], AOper.mk (some 104) (.mv (.tmp 103)) none [3, 2], AOper.mk (some 105) (.mv (.tmp 16)) (some (104, false)) [4], AOper.mk (some 106) (.mv (.tmp 7)) (some (104, false)) [4], AOper.mk (some 107) (.binB .neq (.tmp 105) (.tmp 106)) (some (104, false)) [5, 6, 4], AOper.mk (some 108) (.pick (.tmp 104) (.const (.bool true)) (.tmp 107)) none [4, 7]]
def l5r32 : List AOper :=
  [AOper.mk (some 4) (.mv (.const (.bool false))) none []]
def l5r33 : List AOper :=
  [AOper.mk (some 14) (.mv (.const (.int .i64 1))) none []]
def l5r34 : List AOper :=
  [AOper.mk (some 109) (.load true 3 (.tmp 10)) none [], AOper.mk (some 110) (.mv (.tmp 14)) none [], AOper.mk (some 111) (.call 15 [.tmp 109, .tmp 110]) none [0, 1], AOper.mk (some 14) (.mv (.tmp 111)) none [2, 2, 0, 1, 2]]
def l5r35 : List AOper :=
  [AOper.mk (some 112) (.mv (.tmp 14)) none [], AOper.mk (some 113) (.bin .lss (.tmp 112) (.const (.int .i64 0))) none [0]]
def l5r36 : List AOper :=
  [AOper.mk (some 4) (.mv (.const (.bool false))) none []]
def l5r37 : List AOper :=
  [AOper.mk (some 114) (.mv (.tmp 14)) none [], AOper.mk (some 115) (.mv (.tmp 13)) none [], AOper.mk (some 116) (.bin .neq (.tmp 114) (.tmp 115)) none [0, 1]]
def l5r38 : List AOper :=
  [AOper.mk (some 4) (.mv (.const (.bool false))) none []]
def l5r39 : List AOper :=
  [AOper.mk (some 4) (.mv (.const (.bool true))) none []]
def l5 : AFn :=
  (AFn.mk 117 2 (ACode.seq (ACode.reg l5r0) (ACode.seq (ACode.seq (ACode.reg l5r1) (ACode.cond (.tmp 19) (ACode.seq (ACode.reg l5r2) ACode.ret) ACode.skip)) (ACode.seq (ACode.reg l5r3) (ACode.seq (ACode.reg l5r4) (ACode.seq (ACode.seq (ACode.reg l5r5) (ACode.cond (.tmp 24) (ACode.seq (ACode.reg l5r6) ACode.ret) ACode.skip)) (ACode.seq (ACode.reg l5r7) (ACode.seq (ACode.reg l5r8) (ACode.seq (ACode.reg l5r9) (ACode.seq (ACode.reg l5r10) (ACode.seq (ACode.seq (ACode.reg l5r11) (ACode.cond (.tmp 51) (ACode.seq (ACode.reg l5r12) ACode.ret) ACode.skip)) (ACode.seq (ACode.seq (ACode.draw l5r13) (ACode.cond (.tmp 56) (ACode.seq (ACode.reg l5r14) ACode.ret) ACode.skip)) (ACode.seq (ACode.seq (ACode.reg l5r15) (ACode.cond (.tmp 61) (ACode.seq (ACode.reg l5r16) ACode.ret) ACode.skip)) (ACode.seq (ACode.reg l5r17) (ACode.seq (ACode.reg l5r18) (ACode.seq (ACode.reg l5r19) (ACode.seq (ACode.seq (ACode.reg l5r20) (ACode.cond (.tmp 80) (ACode.seq (ACode.reg l5r21) ACode.ret) ACode.skip)) (ACode.seq (ACode.reg l5r22) (ACode.seq (ACode.reg l5r23) (ACode.seq (ACode.reg l5r24) (ACode.seq (ACode.reg l5r25) (ACode.seq (ACode.seq (ACode.reg l5r26) (ACode.cond (.tmp 88) (ACode.seq (ACode.reg l5r27) ACode.ret) ACode.skip)) (ACode.seq (ACode.seq (ACode.reg l5r28) (ACode.cond (.tmp 91) (ACode.seq (ACode.reg l5r29) ACode.ret) ACode.skip)) (ACode.seq (ACode.reg l5r30) (ACode.seq (ACode.seq (ACode.reg l5r31) (ACode.cond (.tmp 108) (ACode.seq (ACode.reg l5r32) ACode.ret) ACode.skip)) (ACode.seq (ACode.reg l5r33) (ACode.seq (ACode.reg l5r34) (ACode.seq (ACode.seq (ACode.reg l5r35) (ACode.cond (.tmp 113) (ACode.seq (ACode.reg l5r36) ACode.ret) ACode.skip)) (ACode.seq (ACode.seq (ACode.reg l5r37) (ACode.cond (.tmp 116) (ACode.seq (ACode.reg l5r38) ACode.ret) ACode.skip)) (ACode.seq (ACode.reg l5r39) ACode.ret))))))))))))))))))))))))))))) [ARes.tmp 4])
theorem l5_eq : lowFn Try.prog 5 = some l5 := by kernel_rfl
def l9r0 : List AOper :=
  [AOper.mk (some 2) (.box (.tmp 0)) none [], AOper.mk (some 4) (.mv (.const (.int .i64 0))) none []]
def l9r1 : List AOper :=
  [AOper.mk (some 5) (.fld 1 (.tmp 2)) none [], AOper.mk (some 6) (.load false 1 (.tmp 5)) none [0], AOper.mk (some 7) (.mv (.tmp 1)) none [], AOper.mk (some 8) (.call 30 [.tmp 6, .tmp 7]) none [1, 2], AOper.mk (some 1) (.mv (.tmp 8)) none [3, 3, 0, 1, 2, 3]]
def l9r2 : List AOper :=
  [AOper.mk (some 9) (.mv (.tmp 1)) none [], AOper.mk (some 10) (.bin .lss (.tmp 9) (.const (.int .i64 0))) none [0]]
def l9r3 : List AOper :=
  [AOper.mk (some 4) (.mv (.const (.int .i64 (-1)))) none []]
def l9r4 : List AOper :=
  [AOper.mk (some 11) (.fld 2 (.tmp 2)) none [], AOper.mk (some 12) (.load false 1 (.tmp 11)) none [0], AOper.mk (some 13) (.mv (.tmp 1)) none [], AOper.mk (some 14) (.call 30 [.tmp 12, .tmp 13]) none [1, 2], AOper.mk (some 1) (.mv (.tmp 14)) none [3, 3, 0, 1, 2, 3]]
def l9r5 : List AOper :=
  [AOper.mk (some 15) (.mv (.tmp 1)) none [], AOper.mk (some 16) (.bin .lss (.tmp 15) (.const (.int .i64 0))) none [0]]
def l9r6 : List AOper :=
  [AOper.mk (some 4) (.mv (.const (.int .i64 (-1)))) none []]
def l9r7 : List AOper :=
  [AOper.mk (some 17) (.mv (.tmp 1)) none [], AOper.mk (some 4) (.mv (.tmp 17)) none [0, 0]]
def l9 : AFn :=
  (AFn.mk 18 2 (ACode.seq (ACode.reg l9r0) (ACode.seq (ACode.reg l9r1) (ACode.seq (ACode.seq (ACode.reg l9r2) (ACode.cond (.tmp 10) (ACode.seq (ACode.reg l9r3) ACode.ret) ACode.skip)) (ACode.seq (ACode.reg l9r4) (ACode.seq (ACode.seq (ACode.reg l9r5) (ACode.cond (.tmp 16) (ACode.seq (ACode.reg l9r6) ACode.ret) ACode.skip)) (ACode.seq (ACode.reg l9r7) ACode.ret)))))) [ARes.tmp 4])
theorem l9_eq : lowFn Try.prog 9 = some l9 := by kernel_rfl
def l11r0 : List AOper :=
  [AOper.mk (some 1) (.box (.tmp 0)) none [], AOper.mk (some 2) (.alloc [.int .i64 0, .slice none 0 0, .slice none 0 0]) none []]
def l11r1 : List AOper :=
  [AOper.mk (some 3) (.alloc [.int .i64 0, .slice none 0 0, .slice none 0 0]) none []]
def l11r2 : List AOper :=
  [AOper.mk (some 4) (.fld 0 (.tmp 1)) none [], AOper.mk (some 5) (.load false 1 (.tmp 4)) none [0], AOper.mk (some 6) (.fld 0 (.tmp 3)) none [0, 1], AOper.mk none (.store 1 (.tmp 6) (.tmp 5)) none [2, 1, 0, 1]]
def l11r3 : List AOper :=
  [AOper.mk (some 7) (.fld 1 (.tmp 1)) none [], AOper.mk (some 8) (.load false 1 (.tmp 7)) none [0], AOper.mk (some 9) (.call 17 [.tmp 8]) none [1], AOper.mk (some 10) (.fld 1 (.tmp 3)) none [0, 1, 2], AOper.mk none (.store 1 (.tmp 10) (.tmp 9)) none [3, 2, 2, 0, 1, 2]]
def l11r4 : List AOper :=
  [AOper.mk (some 11) (.fld 2 (.tmp 1)) none [], AOper.mk (some 12) (.load false 1 (.tmp 11)) none [0], AOper.mk (some 13) (.call 17 [.tmp 12]) none [1], AOper.mk (some 14) (.fld 2 (.tmp 3)) none [0, 1, 2], AOper.mk none (.store 1 (.tmp 14) (.tmp 13)) none [3, 2, 2, 0, 1, 2]]
def l11r5 : List AOper :=
  [AOper.mk (some 15) (.load true 3 (.tmp 3)) none [], AOper.mk none (.store 3 (.tmp 2) (.tmp 15)) none [0, 0]]
def l11 : AFn :=
  (AFn.mk 16 1 (ACode.seq (ACode.reg l11r0) (ACode.seq (ACode.reg l11r1) (ACode.seq (ACode.reg l11r2) (ACode.seq (ACode.reg l11r3) (ACode.seq (ACode.reg l11r4) (ACode.seq (ACode.reg l11r5) ACode.ret)))))) [ARes.cell 2 true 3])
theorem l11_eq : lowFn Try.prog 11 = some l11 := by kernel_rfl
def l13r0 : List AOper :=
  [AOper.mk (some 2) (.box (.tmp 0)) none [], AOper.mk (some 3) (.box (.tmp 1)) none [], AOper.mk (some 4) (.mv (.const (.bool false))) none []]
def l13r1 : List AOper :=
  [AOper.mk (some 5) (.fld 0 (.tmp 2)) none [], AOper.mk (some 6) (.load false 1 (.tmp 5)) none [0], AOper.mk (some 7) (.fld 0 (.tmp 3)) none [], AOper.mk (some 8) (.load false 1 (.tmp 7)) none [2], AOper.mk (some 9) (.bin .neq (.tmp 6) (.tmp 8)) none [1, 3]]
def l13r2 : List AOper :=
  [AOper.mk (some 4) (.mv (.const (.bool false))) none []]
def l13r3 : List AOper :=
  [AOper.mk (some 10) (.fld 1 (.tmp 2)) none [], AOper.mk (some 11) (.load false 1 (.tmp 10)) none [0], AOper.mk (some 12) (.fld 1 (.tmp 3)) none [], AOper.mk (some 13) (.load false 1 (.tmp 12)) none [2], AOper.mk (some 14) (.call 19 [.tmp 11, .tmp 13]) none [1, 3], AOper.mk (some 15) (.un .not (.tmp 14)) none [4]]
def l13r4 : List AOper :=
  [AOper.mk (some 4) (.mv (.const (.bool false))) none []]
def l13r5 : List AOper :=
  [AOper.mk (some 16) (.fld 2 (.tmp 2)) none [], AOper.mk (some 17) (.load false 1 (.tmp 16)) none [0], AOper.mk (some 18) (.fld 2 (.tmp 3)) none [], AOper.mk (some 19) (.load false 1 (.tmp 18)) none [2], AOper.mk (some 20) (.call 19 [.tmp 17, .tmp 19]) none [1, 3], AOper.mk (some 21) (.un .not (.tmp 20)) none [4]]
def l13r6 : List AOper :=
  [AOper.mk (some 4) (.mv (.const (.bool false))) none []]
def l13r7 : List AOper :=
  [AOper.mk (some 4) (.mv (.const (.bool true))) none []]
def l13 : AFn :=
  (AFn.mk 22 2 (ACode.seq (ACode.reg l13r0) (ACode.seq (ACode.seq (ACode.reg l13r1) (ACode.cond (.tmp 9) (ACode.seq (ACode.reg l13r2) ACode.ret) ACode.skip)) (ACode.seq (ACode.seq (ACode.reg l13r3) (ACode.cond (.tmp 15) (ACode.seq (ACode.reg l13r4) ACode.ret) ACode.skip)) (ACode.seq (ACode.seq (ACode.reg l13r5) (ACode.cond (.tmp 21) (ACode.seq (ACode.reg l13r6) ACode.ret) ACode.skip)) (ACode.seq (ACode.reg l13r7) ACode.ret))))) [ARes.tmp 4])
theorem l13_eq : lowFn Try.prog 13 = some l13 := by kernel_rfl
def l14r0 : List AOper :=
  [AOper.mk (some 2) (.box (.tmp 0)) none [], AOper.mk (some 4) (.mv (.const (.int .i64 0))) none []]
def l14r1 : List AOper :=
  [AOper.mk (some 5) (.fld 1 (.tmp 2)) none [], AOper.mk (some 6) (.load false 1 (.tmp 5)) none [0], AOper.mk (some 7) (.mv (.tmp 1)) none [], AOper.mk (some 8) (.call 20 [.tmp 6, .tmp 7]) none [1, 2], AOper.mk (some 1) (.mv (.tmp 8)) none [3, 3, 0, 1, 2, 3]]
def l14r2 : List AOper :=
  [AOper.mk (some 9) (.fld 2 (.tmp 2)) none [], AOper.mk (some 10) (.load false 1 (.tmp 9)) none [0], AOper.mk (some 11) (.mv (.tmp 1)) none [], AOper.mk (some 12) (.call 20 [.tmp 10, .tmp 11]) none [1, 2], AOper.mk (some 1) (.mv (.tmp 12)) none [3, 3, 0, 1, 2, 3]]
def l14r3 : List AOper :=
  [AOper.mk (some 13) (.mv (.tmp 1)) none [], AOper.mk (some 4) (.mv (.tmp 13)) none [0, 0]]
def l14 : AFn :=
  (AFn.mk 14 2 (ACode.seq (ACode.reg l14r0) (ACode.seq (ACode.reg l14r1) (ACode.seq (ACode.reg l14r2) (ACode.seq (ACode.reg l14r3) ACode.ret)))) [ARes.tmp 4])
theorem l14_eq : lowFn Try.prog 14 = some l14 := by kernel_rfl
def l15r0 : List AOper :=
  [AOper.mk (some 2) (.box (.tmp 0)) none [], AOper.mk (some 4) (.mv (.const (.int .i64 0))) none []]
def l15r1 : List AOper :=
  [AOper.mk (some 5) (.fld 1 (.tmp 2)) none [], AOper.mk (some 6) (.load false 1 (.tmp 5)) none [0], AOper.mk (some 7) (.mv (.tmp 1)) none [], AOper.mk (some 8) (.call 21 [.tmp 6, .tmp 7]) none [1, 2], AOper.mk (some 1) (.mv (.tmp 8)) none [3, 3, 0, 1, 2, 3]]
def l15r2 : List AOper :=
  [AOper.mk (some 9) (.mv (.tmp 1)) none [], AOper.mk (some 10) (.bin .lss (.tmp 9) (.const (.int .i64 0))) none [0]]
def l15r3 : List AOper :=
  [AOper.mk (some 4) (.mv (.const (.int .i64 (-1)))) none []]
def l15r4 : List AOper :=
  [AOper.mk (some 11) (.fld 2 (.tmp 2)) none [], AOper.mk (some 12) (.load false 1 (.tmp 11)) none [0], AOper.mk (some 13) (.mv (.tmp 1)) none [], AOper.mk (some 14) (.call 21 [.tmp 12, .tmp 13]) none [1, 2], AOper.mk (some 1) (.mv (.tmp 14)) none [3, 3, 0, 1, 2, 3]]
def l15r5 : List AOper :=
  [AOper.mk (some 15) (.mv (.tmp 1)) none [], AOper.mk (some 16) (.bin .lss (.tmp 15) (.const (.int .i64 0))) none [0]]
def l15r6 : List AOper :=
  [AOper.mk (some 4) (.mv (.const (.int .i64 (-1)))) none []]
def l15r7 : List AOper :=
  [AOper.mk (some 17) (.mv (.tmp 1)) none [], AOper.mk (some 4) (.mv (.tmp 17)) none [0, 0]]
def l15 : AFn :=
  (AFn.mk 18 2 (ACode.seq (ACode.reg l15r0) (ACode.seq (ACode.reg l15r1) (ACode.seq (ACode.seq (ACode.reg l15r2) (ACode.cond (.tmp 10) (ACode.seq (ACode.reg l15r3) ACode.ret) ACode.skip)) (ACode.seq (ACode.reg l15r4) (ACode.seq (ACode.seq (ACode.reg l15r5) (ACode.cond (.tmp 16) (ACode.seq (ACode.reg l15r6) ACode.ret) ACode.skip)) (ACode.seq (ACode.reg l15r7) ACode.ret)))))) [ARes.tmp 4])
theorem l15_eq : lowFn Try.prog 15 = some l15 := by kernel_rfl
def l17r0 : List AOper :=
  [AOper.mk (some 2) (.mv (.const (.slice none 0 0))) none []]
def l17r1 : List AOper :=
  [AOper.mk (some 5) (.mv (.tmp 0)) none [], AOper.mk (some 6) (.len (.tmp 5)) none [0], AOper.mk (some 7) (.mkslice 1 [.int .i64 0] (.tmp 6) (.tmp 6)) none [1, 1], AOper.mk (some 3) (.mv (.tmp 7)) none [2, 0, 1, 2]]
def l17r2 : List AOper :=
  [AOper.mk (some 4) (.mv (.const (.int .i64 0))) none []]
def l17r3 : List AOper :=
  [AOper.mk (some 8) (.mv (.tmp 4)) none [], AOper.mk (some 9) (.mv (.tmp 0)) none [], AOper.mk (some 10) (.len (.tmp 9)) none [1], AOper.mk (some 11) (.bin .lss (.tmp 8) (.tmp 10)) none [0, 2]]
def l17r4 : List AOper :=
  [AOper.mk (some 14) (.mv (.tmp 3)) none [], AOper.mk (some 15) (.mv (.tmp 4)) none [], AOper.mk (some 16) (.mv (.tmp 0)) none [], AOper.mk (some 17) (.mv (.tmp 4)) none [], AOper.mk (some 18) (.idxA 1 (.tmp 16) (.tmp 17)) none [2, 3], AOper.mk (some 19) (.load false 1 (.tmp 18)) none [4], AOper.mk (some 20) (.idxA 1 (.tmp 14) (.tmp 15)) none [0, 1, 0, 1, 2, 3, 4, 5], AOper.mk none (.store 1 (.tmp 20) (.tmp 19)) none [6, 5, 0, 1, 2, 3, 4, 5]]
def l17r5 : List AOper :=
  [AOper.mk (some 12) (.mv (.tmp 4)) none [], AOper.mk (some 13) (.bin .add (.tmp 12) (.const (.int .i64 1))) none [0], AOper.mk (some 4) (.mv (.tmp 13)) none [1, 0, 1]]
def l17r6 : List AOper :=
  [AOper.mk (some 21) (.mv (.tmp 3)) none [], AOper.mk (some 2) (.mv (.tmp 21)) none [0, 0]]
def l17 : AFn :=
  (AFn.mk 22 1 (ACode.seq (ACode.reg l17r0) (ACode.seq (ACode.reg l17r1) (ACode.seq (ACode.seq (ACode.reg l17r2) (ACode.block 0 (ACode.loop (ACode.seq (ACode.seq (ACode.reg l17r3) (ACode.cond (.tmp 11) ACode.skip (ACode.exit 0))) (ACode.seq (ACode.block 1 (ACode.reg l17r4)) (ACode.reg l17r5)))))) (ACode.seq (ACode.reg l17r6) ACode.ret)))) [ARes.tmp 2])
theorem l17_eq : lowFn Try.prog 17 = some l17 := by kernel_rfl
def l19r0 : List AOper :=
  [AOper.mk (some 4) (.mv (.const (.bool false))) none []]
def l19r1 : List AOper :=
  [AOper.mk (some 6) (.mv (.tmp 0)) none [], AOper.mk (some 7) (.len (.tmp 6)) none [0], AOper.mk (some 8) (.mv (.tmp 1)) none [], AOper.mk (some 9) (.len (.tmp 8)) none [2], AOper.mk (some 10) (.bin .neq (.tmp 7) (.tmp 9)) none [1, 3]]
def l19r2 : List AOper :=
  [AOper.mk (some 4) (.mv (.const (.bool false))) none []]
def l19r3 : List AOper :=
  [AOper.mk (some 5) (.mv (.const (.int .i64 0))) none []]
def l19r4 : List AOper :=
  [AOper.mk (some 11) (.mv (.tmp 5)) none [], AOper.mk (some 12) (.mv (.tmp 0)) none [], AOper.mk (some 13) (.len (.tmp 12)) none [1], AOper.mk (some 14) (.bin .lss (.tmp 11) (.tmp 13)) none [0, 2]]
def l19r5a : List AOper :=
  [AOper.mk (some 17) (.mv (.tmp 0)) none [], AOper.mk (some 18) (.mv (.tmp 5)) none [], AOper.mk (some 19) (.idxA 1 (.tmp 17) (.tmp 18)) none [0, 1], AOper.mk (some 20) (.load false 1 (.tmp 19)) none [2], AOper.mk (some 21) (.mv (.tmp 1)) none [], AOper.mk (some 22) (.mv (.tmp 5)) none [], AOper.mk (some 23) (.idxA 1 (.tmp 21) (.tmp 22)) none [4, 5], AOper.mk (some 24) (.load false 1 (.tmp 23)) none [6]]
def l19r5b : List AOper :=
  [AOper.mk (some 25) (.bin .neq (.tmp 20) (.tmp 24)) none [3, 7]]
def l19r5 : List AOper := l19r5a ++ l19r5b
def l19r6 : List AOper :=
  [AOper.mk (some 4) (.mv (.const (.bool false))) none []]
def l19r7 : List AOper :=
  [AOper.mk (some 15) (.mv (.tmp 5)) none [], AOper.mk (some 16) (.bin .add (.tmp 15) (.const (.int .i64 1))) none [0], AOper.mk (some 5) (.mv (.tmp 16)) none [1, 0, 1]]
def l19r8 : List AOper :=
  [AOper.mk (some 4) (.mv (.const (.bool true))) none []]
def l19 : AFn :=
  (AFn.mk 26 2 (ACode.seq (ACode.reg l19r0) (ACode.seq (ACode.seq (ACode.reg l19r1) (ACode.cond (.tmp 10) (ACode.seq (ACode.reg l19r2) ACode.ret) ACode.skip)) (ACode.seq (ACode.seq (ACode.reg l19r3) (ACode.block 0 (ACode.loop (ACode.seq (ACode.seq (ACode.reg l19r4) (ACode.cond (.tmp 14) ACode.skip (ACode.exit 0))) (ACode.seq (ACode.block 1 (ACode.seq (ACode.draw l19r5) (ACode.cond (.tmp 25) (ACode.seq (ACode.reg l19r6) ACode.ret) ACode.skip))) (ACode.reg l19r7)))))) (ACode.seq (ACode.reg l19r8) ACode.ret)))) [ARes.tmp 4])
theorem l19_eq : lowFn Try.prog 19 = some l19 := by kernel_rfl
def l20r0 : List AOper :=
  [AOper.mk (some 4) (.mv (.const (.int .i64 0))) none []]
def l20r1 : List AOper :=
  [AOper.mk (some 5) (.mv (.const (.int .i64 0))) none []]
def l20r2 : List AOper :=
  [AOper.mk (some 6) (.mv (.tmp 5)) none [], AOper.mk (some 7) (.mv (.tmp 0)) none [], AOper.mk (some 8) (.len (.tmp 7)) none [1], AOper.mk (some 9) (.bin .lss (.tmp 6) (.tmp 8)) none [0, 2]]
def l20r3 : List AOper :=
  [AOper.mk (some 12) (.mv (.tmp 0)) none [], AOper.mk (some 13) (.mv (.tmp 5)) none [], AOper.mk (some 14) (.mv (.tmp 1)) none [], AOper.mk (some 15) (.idxA 1 (.tmp 12) (.tmp 13)) none [0, 1, 0, 1, 2], AOper.mk none (.store 1 (.tmp 15) (.tmp 14)) none [3, 2, 0, 1, 2]]
def l20r4 : List AOper :=
  [AOper.mk (some 16) (.mv (.tmp 1)) none [], AOper.mk (some 17) (.bin .add (.tmp 16) (.const (.int .i64 1))) none [0], AOper.mk (some 1) (.mv (.tmp 17)) none [1, 0, 1]]
def l20r5 : List AOper :=
  [AOper.mk (some 10) (.mv (.tmp 5)) none [], AOper.mk (some 11) (.bin .add (.tmp 10) (.const (.int .i64 1))) none [0], AOper.mk (some 5) (.mv (.tmp 11)) none [1, 0, 1]]
def l20r6 : List AOper :=
  [AOper.mk (some 18) (.mv (.tmp 1)) none [], AOper.mk (some 4) (.mv (.tmp 18)) none [0, 0]]
def l20 : AFn :=
  (AFn.mk 19 2 (ACode.seq (ACode.reg l20r0) (ACode.seq (ACode.seq (ACode.reg l20r1) (ACode.block 0 (ACode.loop (ACode.seq (ACode.seq (ACode.reg l20r2) (ACode.cond (.tmp 9) ACode.skip (ACode.exit 0))) (ACode.seq (ACode.block 1 (ACode.seq (ACode.reg l20r3) (ACode.reg l20r4))) (ACode.reg l20r5)))))) (ACode.seq (ACode.reg l20r6) ACode.ret))) [ARes.tmp 4])
theorem l20_eq : lowFn Try.prog 20 = some l20 := by kernel_rfl
def l21r0 : List AOper :=
  [AOper.mk (some 4) (.mv (.const (.int .i64 0))) none []]
def l21r1 : List AOper :=
  [AOper.mk (some 5) (.mv (.const (.int .i64 0))) none []]
def l21r2 : List AOper :=
  [AOper.mk (some 6) (.mv (.tmp 5)) none [], AOper.mk (some 7) (.mv (.tmp 0)) none [], AOper.mk (some 8) (.len (.tmp 7)) none [1], AOper.mk (some 9) (.bin .lss (.tmp 6) (.tmp 8)) none [0, 2]]
def l21r3 : List AOper :=
  [AOper.mk (some 12) (.mv (.tmp 0)) none [], AOper.mk (some 13) (.mv (.tmp 5)) none [], AOper.mk (some 14) (.idxA 1 (.tmp 12) (.tmp 13)) none [0, 1], AOper.mk (some 15) (.load false 1 (.tmp 14)) none [2], AOper.mk (some 16) (.mv (.tmp 1)) none [], AOper.mk (some 17) (.bin .neq (.tmp 15) (.tmp 16)) none [3, 4]]
def l21r4 : List AOper :=
  [AOper.mk (some 4) (.mv (.const (.int .i64 (-1)))) none []]
def l21r5 : List AOper :=
  [AOper.mk (some 18) (.mv (.tmp 1)) none [], AOper.mk (some 19) (.bin .add (.tmp 18) (.const (.int .i64 1))) none [0], AOper.mk (some 1) (.mv (.tmp 19)) none [1, 0, 1]]
def l21r6 : List AOper :=
  [AOper.mk (some 10) (.mv (.tmp 5)) none [], AOper.mk (some 11) (.bin .add (.tmp 10) (.const (.int .i64 1))) none [0], AOper.mk (some 5) (.mv (.tmp 11)) none [1, 0, 1]]
def l21r7 : List AOper :=
  [AOper.mk (some 20) (.mv (.tmp 1)) none [], AOper.mk (some 4) (.mv (.tmp 20)) none [0, 0]]
def l21 : AFn :=
  (AFn.mk 21 2 (ACode.seq (ACode.reg l21r0) (ACode.seq (ACode.seq (ACode.reg l21r1) (ACode.block 0 (ACode.loop (ACode.seq (ACode.seq (ACode.reg l21r2) (ACode.cond (.tmp 9) ACode.skip (ACode.exit 0))) (ACode.seq (ACode.block 1 (ACode.seq (ACode.seq (ACode.reg l21r3) (ACode.cond (.tmp 17) (ACode.seq (ACode.reg l21r4) ACode.ret) ACode.skip)) (ACode.reg l21r5))) (ACode.reg l21r6)))))) (ACode.seq (ACode.reg l21r7) ACode.ret))) [ARes.tmp 4])
theorem l21_eq : lowFn Try.prog 21 = some l21 := by kernel_rfl
def l22r0 : List AOper :=
  [AOper.mk (some 2) (.box (.tmp 0)) none [], AOper.mk (some 4) (.alloc [.int .i64 0, .slice none 0 0, .slice none 0 0]) none [], AOper.mk (some 5) (.mv (.const (.bool false))) none []]
def l22r1 : List AOper :=
  [AOper.mk (some 8) (.load true 3 (.tmp 2)) none [], AOper.mk (some 9) (.call 31 [.tmp 8]) none [0], AOper.mk (some 10) (.un .not (.tmp 9)) none [1], AOper.mk (some 11) (.mv (.tmp 10)) none [2, 1], AOper.mk (some 12) (.mv (.tmp 1)) (some (11, false)) [3], AOper.mk (some 13) (.call 40 [.tmp 12]) (some (11, false)) [4, 3, 3], AOper.mk (some 14) (.un .not (.tmp 13)) (some (11, false)) [5, 3], AOper.mk (some 15) (.pick (.tmp 11) (.const (.bool true)) (.tmp 14)) none [3, 6]]
def l22r2 : List AOper :=
  [AOper.mk (some 16) (.build [.int .i64 0, .slice none 0 0, .slice none 0 0] []) none [], AOper.mk none (.store 3 (.tmp 4) (.tmp 16)) none [0, 0], AOper.mk (some 5) (.mv (.const (.bool false))) none [1, 0, 1]]
def l22r3 : List AOper :=
  [AOper.mk (some 18) (.load true 3 (.tmp 2)) none [], AOper.mk (some 19) (.mv (.tmp 1)) none [], AOper.mk (some 20) (.call 45 [.tmp 18, .tmp 19]) none [0, 1], AOper.mk (some 17) (.mv (.tmp 20)) none [2], AOper.mk (some 21) (.extract (.tmp 17) 0) none [3], AOper.mk (some 22) (.extract (.tmp 17) 1) none [3], AOper.mk (some 6) (.alloc [.int .i64 0, .slice none 0 0, .slice none 0 0]) none [], AOper.mk none (.store 3 (.tmp 6) (.tmp 21)) none [6, 4, 2, 0, 1, 2, 3, 4, 6], AOper.mk (some 7) (.mv (.tmp 22)) none [5, 7, 0, 1, 2, 3, 4, 5, 6, 7]]
def l22r4 : List AOper :=
  [AOper.mk (some 23) (.mv (.tmp 7)) none [], AOper.mk (some 24) (.un .not (.tmp 23)) none [0]]
def l22r5 : List AOper :=
  [AOper.mk (some 25) (.build [.int .i64 0, .slice none 0 0, .slice none 0 0] []) none [], AOper.mk none (.store 3 (.tmp 4) (.tmp 25)) none [0, 0], AOper.mk (some 5) (.mv (.const (.bool false))) none [1, 0, 1]]
def l22r6 : List AOper :=
  [AOper.mk (some 26) (.load true 3 (.tmp 6)) none [], AOper.mk (some 27) (.call 33 [.tmp 26]) none [0], AOper.mk (some 28) (.extract (.tmp 27) 0) none [1], AOper.mk (some 29) (.extract (.tmp 27) 1) none [1], AOper.mk none (.store 3 (.tmp 4) (.tmp 28)) none [2, 1, 0, 1, 2, 3], AOper.mk (some 5) (.mv (.tmp 29)) none [3, 4, 0, 1, 2, 3, 4]]
def l22 : AFn :=
  (AFn.mk 30 2 (ACode.seq (ACode.reg l22r0) (ACode.seq (ACode.seq (ACode.reg l22r1) (ACode.cond (.tmp 15) (ACode.seq (ACode.reg l22r2) ACode.ret) ACode.skip)) (ACode.seq (ACode.reg l22r3) (ACode.seq (ACode.seq (ACode.reg l22r4) (ACode.cond (.tmp 24) (ACode.seq (ACode.reg l22r5) ACode.ret) ACode.skip)) (ACode.seq (ACode.reg l22r6) ACode.ret))))) [ARes.cell 4 true 3, ARes.tmp 5])
theorem l22_eq : lowFn Try.prog 22 = some l22 := by kernel_rfl
def l23r0 : List AOper :=
  [AOper.mk (some 2) (.box (.tmp 0)) none [], AOper.mk (some 4) (.alloc [.int .i64 0, .slice none 0 0, .slice none 0 0]) none [], AOper.mk (some 5) (.mv (.const (.bool false))) none []]
def l23r1 : List AOper :=
  [AOper.mk (some 12) (.mv (.tmp 1)) none [], AOper.mk (some 13) (.len (.tmp 12)) none [0], AOper.mk (some 14) (.fld 1 (.tmp 2)) none [], AOper.mk (some 15) (.load false 1 (.tmp 14)) none [2], AOper.mk (some 16) (.len (.tmp 15)) none [3], AOper.mk (some 17) (.bin .sub (.tmp 13) (.tmp 16)) none [1, 4], AOper.mk (some 6) (.mv (.tmp 17)) none [5, 0, 1, 2, 3, 4, 5]]
def l23r2 : List AOper :=
  [AOper.mk (some 18) (.load true 3 (.tmp 2)) none [], AOper.mk (some 19) (.call 35 [.tmp 18]) none [0], AOper.mk (some 20) (.un .not (.tmp 19)) none [1], AOper.mk (some 21) (.mv (.tmp 20)) none [2, 1], AOper.mk (some 22) (.mv (.tmp 1)) (some (21, false)) [3], AOper.mk (some 23) (.call 42 [.tmp 22]) (some (21, false)) [4, 3, 3], AOper.mk (some 24) (.un .not (.tmp 23)) (some (21, false)) [5, 3], AOper.mk (some 25) (.pick (.tmp 21) (.const (.bool true)) (.tmp 24)) none [3, 6], AOper.mk (some 26) (.mv (.tmp 25)) none [7, 5], AOper.mk (some 27) (.mv (.tmp 6)) (some (26, false)) [8], AOper.mk (some 28) (.bin .lss (.tmp 27) (.const (.int .i64 0))) (some (26, false)) [9, 8], AOper.mk (some 29) (.pick (.tmp 26) (.const (.bool true)) (.tmp 28)) none [8, 10]]
def l23r3 : List AOper :=
  [AOper.mk (some 30) (.build [.int .i64 0, .slice none 0 0, .slice none 0 0] []) none [], AOper.mk none (.store 3 (.tmp 4) (.tmp 30)) none [0, 0], AOper.mk (some 5) (.mv (.const (.bool false))) none [1, 0, 1]]
def l23r4 : List AOper :=
  [AOper.mk (some 31) (.load true 3 (.tmp 2)) none [], AOper.mk (some 32) (.call 37 [.tmp 31]) none [0], AOper.mk (some 7) (.alloc [.int .i64 0, .slice none 0 0, .slice none 0 0, .int .i64 0, .int .i64 0, .int .i64 0, .int .i64 0, .slice none 0 0]) none [], AOper.mk none (.store 8 (.tmp 7) (.tmp 32)) none [2, 1, 1, 0, 1, 2]]
def l23r5a : List AOper :=
  [AOper.mk (some 33) (.build [.int .i64 0, .int .i64 0] [(0, 1, .const (.int .i64 1))]) none [], AOper.mk (some 34) (.bslice 2 [.int .i64 0, .int .i64 0] [(0, .tmp 33)] 1) none [0], AOper.mk (some 35) (.mv (.tmp 6)) none [], AOper.mk (some 36) (.call 47 [.tmp 34, .tmp 35]) none [1, 2], AOper.mk (some 37) (.fld 7 (.tmp 7)) none [], AOper.mk (some 38) (.load false 1 (.tmp 37)) none [4]]
def l23r5b : List AOper :=
  [AOper.mk (some 39) (.bslice 1 [.slice none 0 0] [(0, .tmp 36), (1, .tmp 38)] 2) none [3, 5], AOper.mk (some 40) (.call 46 [.tmp 39]) none [6, 3], AOper.mk (some 41) (.fld 7 (.tmp 7)) none [0, 1, 2, 3, 4, 5, 6, 7], AOper.mk none (.store 1 (.tmp 41) (.tmp 40)) none [8, 7, 7, 0, 1, 2, 3, 4, 5, 6, 7]]
def l23r5 : List AOper := l23r5a ++ l23r5b
def l23r6 : List AOper :=
  [AOper.mk (some 42) (.mv (.tmp 1)) none [], AOper.mk (some 43) (.len (.tmp 42)) none [0], AOper.mk (some 44) (.mv (.const (.int .i64 0))) none []]
def l23r7 : List AOper :=
  [AOper.mk (some 45) (.bin .lss (.tmp 44) (.tmp 43)) none []]
def l23r8 : List AOper :=
  [AOper.mk (some 46) (.mv (.tmp 44)) none [], AOper.mk (some 47) (.idxA 1 (.tmp 42) (.tmp 44)) none [], AOper.mk (some 48) (.load false 1 (.tmp 47)) none [1], AOper.mk (some 8) (.mv (.tmp 46)) none [0, 0, 1, 2], AOper.mk (some 9) (.mv (.tmp 48)) none [2, 3, 0, 1, 2, 3]]
def l23r9 : List AOper :=
  [AOper.mk (some 50) (.fld 7 (.tmp 7)) none [], AOper.mk (some 51) (.load false 1 (.tmp 50)) none [0], AOper.mk (some 52) (.mv (.tmp 8)) none [], AOper.mk (some 53) (.idxA 2 (.tmp 51) (.tmp 52)) none [1, 2], AOper.mk (some 54) (.load true 2 (.tmp 53)) none [3], AOper.mk (some 55) (.mv (.tmp 9)) none [], AOper.mk (some 56) (.call 48 [.tmp 54, .tmp 55]) none [4, 5], AOper.mk (some 49) (.mv (.tmp 56)) none [6], AOper.mk (some 57) (.extract (.tmp 49) 0) none [7], AOper.mk (some 58) (.extract (.tmp 49) 1) none [7], AOper.mk (some 10) (.alloc [.int .i64 0, .int .i64 0]) none [], AOper.mk none (.store 2 (.tmp 10) (.tmp 57)) none [10, 8, 6, 0, 1, 2, 3, 4, 5, 6, 7, 8, 10], AOper.mk (some 11) (.mv (.tmp 58)) none [9, 11, 0, 1, 2, 3, 4, 5, 6, 7, 8, 9, 10, 11]]
def l23r10 : List AOper :=
  [AOper.mk (some 59) (.mv (.tmp 11)) none [], AOper.mk (some 60) (.un .not (.tmp 59)) none [0]]
def l23r11 : List AOper :=
  [AOper.mk (some 61) (.build [.int .i64 0, .slice none 0 0, .slice none 0 0] []) none [], AOper.mk none (.store 3 (.tmp 4) (.tmp 61)) none [0, 0], AOper.mk (some 5) (.mv (.const (.bool false))) none [1, 0, 1]]
def l23r12 : List AOper :=
  [AOper.mk (some 62) (.fld 7 (.tmp 7)) none [], AOper.mk (some 63) (.load false 1 (.tmp 62)) none [0], AOper.mk (some 64) (.mv (.tmp 8)) none [], AOper.mk (some 65) (.load true 2 (.tmp 10)) none [], AOper.mk (some 66) (.idxA 2 (.tmp 63) (.tmp 64)) none [1, 2, 0, 1, 2, 3], AOper.mk none (.store 2 (.tmp 66) (.tmp 65)) none [4, 3, 0, 1, 2, 3]]
def l23r13 : List AOper :=
  [AOper.mk (some 67) (.bin .add (.tmp 44) (.const (.int .i64 1))) none [], AOper.mk (some 44) (.mv (.tmp 67)) none [0]]
def l23r14 : List AOper :=
  [AOper.mk (some 68) (.load true 8 (.tmp 7)) none [], AOper.mk (some 69) (.call 49 [.tmp 68]) none [0], AOper.mk none (.store 3 (.tmp 4) (.tmp 69)) none [1, 1, 0, 1], AOper.mk (some 5) (.mv (.const (.bool true))) none [2, 0, 1, 2]]
def l23 : AFn :=
  (AFn.mk 70 2 (ACode.seq (ACode.reg l23r0) (ACode.seq (ACode.reg l23r1) (ACode.seq (ACode.seq (ACode.reg l23r2) (ACode.cond (.tmp 29) (ACode.seq (ACode.reg l23r3) ACode.ret) ACode.skip)) (ACode.seq (ACode.reg l23r4) (ACode.seq (ACode.draw l23r5) (ACode.seq (ACode.seq (ACode.reg l23r6) (ACode.block 0 (ACode.loop (ACode.seq (ACode.reg l23r7) (ACode.seq (ACode.cond (.tmp 45) ACode.skip (ACode.exit 0)) (ACode.seq (ACode.block 1 (ACode.seq (ACode.reg l23r8) (ACode.seq (ACode.reg l23r9) (ACode.seq (ACode.seq (ACode.reg l23r10) (ACode.cond (.tmp 60) (ACode.seq (ACode.reg l23r11) ACode.ret) ACode.skip)) (ACode.reg l23r12))))) (ACode.reg l23r13))))))) (ACode.seq (ACode.reg l23r14) ACode.ret))))))) [ARes.cell 4 true 3, ARes.tmp 5])
theorem l23_eq : lowFn Try.prog 23 = some l23 := by kernel_rfl
def l30r0 : List AOper :=
  [AOper.mk (some 4) (.mv (.const (.int .i64 0))) none []]
def l30r1 : List AOper :=
  [AOper.mk (some 5) (.mv (.tmp 1)) none [], AOper.mk (some 6) (.mv (.tmp 0)) none [], AOper.mk (some 7) (.len (.tmp 6)) none [1], AOper.mk (some 8) (.bin .sub (.tmp 5) (.tmp 7)) none [0, 2], AOper.mk (some 1) (.mv (.tmp 8)) none [3, 0, 1, 2, 3]]
def l30r2 : List AOper :=
  [AOper.mk (some 9) (.mv (.tmp 1)) none [], AOper.mk (some 10) (.bin .lss (.tmp 9) (.const (.int .i64 0))) none [0]]
def l30r3 : List AOper :=
  [AOper.mk (some 4) (.mv (.const (.int .i64 (-1)))) none []]
def l30r4 : List AOper :=
  [AOper.mk (some 11) (.mv (.tmp 1)) none [], AOper.mk (some 4) (.mv (.tmp 11)) none [0, 0]]
def l30 : AFn :=
  (AFn.mk 12 2 (ACode.seq (ACode.reg l30r0) (ACode.seq (ACode.reg l30r1) (ACode.seq (ACode.seq (ACode.reg l30r2) (ACode.cond (.tmp 10) (ACode.seq (ACode.reg l30r3) ACode.ret) ACode.skip)) (ACode.seq (ACode.reg l30r4) ACode.ret)))) [ARes.tmp 4])
theorem l30_eq : lowFn Try.prog 30 = some l30 := by kernel_rfl
def l31r0 : List AOper :=
  [AOper.mk (some 1) (.box (.tmp 0)) none [], AOper.mk (some 2) (.mv (.const (.bool false))) none []]
def l31r1 : List AOper :=
  [AOper.mk (some 3) (.fld 1 (.tmp 1)) none [], AOper.mk (some 4) (.load false 1 (.tmp 3)) none [0], AOper.mk (some 5) (.call 40 [.tmp 4]) none [1], AOper.mk (some 6) (.mv (.tmp 5)) none [2, 2], AOper.mk (some 7) (.fld 2 (.tmp 1)) (some (6, true)) [3], AOper.mk (some 8) (.load false 1 (.tmp 7)) (some (6, true)) [4, 3], AOper.mk (some 9) (.len (.tmp 8)) (some (6, true)) [5, 3], AOper.mk (some 10) (.fld 1 (.tmp 1)) (some (6, true)) [3], AOper.mk (some 11) (.load false 1 (.tmp 10)) (some (6, true)) [7, 3], AOper.mk (some 12) (.len (.tmp 11)) (some (6, true)) [8, 3], AOper.mk (some 13) (.bin .eql (.tmp 9) (.tmp 12)) (some (6, true)) [6, 9, 3], AOper.mk (some 14) (.pick (.tmp 6) (.tmp 13) (.const (.bool false))) none [3, 10], AOper.mk (some 15) (.mv (.tmp 14)) none [11, 3], AOper.mk (some 16) (.fld 2 (.tmp 1)) (some (15, true)) [12], AOper.mk (some 17) (.load false 1 (.tmp 16)) (some (15, true)) [13, 12], AOper.mk (some 18) (.call 59 [.tmp 17, .const (.int .i64 (-60)), .const (.int .i64 60)]) (some (15, true)) [14, 12, 12], AOper.mk (some 19) (.pick (.tmp 15) (.tmp 18) (.const (.bool false))) none [12, 15], AOper.mk (some 20) (.mv (.tmp 19)) none [16, 15], AOper.mk (some 21) (.fld 0 (.tmp 1)) (some (20, true)) [17], AOper.mk (some 22) (.load false 1 (.tmp 21)) (some (20, true)) [18, 17], AOper.mk (some 23) (.call 32 [.tmp 22, .const (.int .i64 0), .const (.int .i64 60)]) (some (20, true)) [19, 17, 17], AOper.mk (some 24) (.pick (.tmp 20) (.tmp 23) (.const (.bool false))) none [17, 20], AOper.mk (some 25) (.mv (.tmp 24)) none [21, 20], AOper.mk (some 26) (.fld 1 (.tmp 1)) (some (25, true)) [22], AOper.mk (some 27) (.load false 1 (.tmp 26)) (some (25, true)) [23, 22], AOper.mk (some 28) (.call 60 [.tmp 27]) (some (25, true)) [24, 22, 22], AOper.mk (some 29) (.bin .eql (.tmp 28) (.const (.int .i64 0))) (some (25, true)) [25, 22], AOper.mk (some 30) (.mv (.tmp 29)) (some (25, true)) [26, 25, 22], AOper.mk (some 31) (.load true 3 (.tmp 1)) (some (30, false)) [27], AOper.mk (some 32) (.call 61 [.tmp 31]) (some (30, false)) [28, 27, 27], AOper.mk (some 33) (.call 59 [.tmp 32, .const (.int .i64 0), .const (.int .i64 59)]) (some (30, false)) [29, 29, 27], AOper.mk (some 34) (.pick (.tmp 30) (.const (.bool true)) (.tmp 33)) (some (25, true)) [27, 30, 22], AOper.mk (some 35) (.pick (.tmp 25) (.tmp 34) (.const (.bool false))) none [22, 31], AOper.mk (some 2) (.mv (.tmp 35)) none [32, 30, 0, 1, 2, 3, 4, 5, 6, 7, 8, 9, 10, 11, 12, 13, 14, 15, 16, 17, 18, 19, 20, 21, 22, 23, 24, 25, 26, 27, 28, 29, 30, 31, 32]]
def l31 : AFn :=
  (AFn.mk 36 1 (ACode.seq (ACode.reg l31r0) (ACode.seq (ACode.reg l31r1) ACode.ret)) [ARes.tmp 2])
theorem l31_eq : lowFn Try.prog 31 = some l31 := by kernel_rfl
def l32r0 : List AOper :=
  [AOper.mk (some 6) (.mv (.const (.bool false))) none []]
def l32r1 : List AOper :=
  [AOper.mk (some 7) (.mv (.tmp 1)) none [], AOper.mk (some 8) (.mv (.tmp 0)) none [], AOper.mk (some 9) (.bin .leq (.tmp 7) (.tmp 8)) none [0, 1], AOper.mk (some 10) (.mv (.tmp 9)) none [2], AOper.mk (some 11) (.mv (.tmp 0)) (some (10, true)) [3], AOper.mk (some 12) (.mv (.tmp 2)) (some (10, true)) [3], AOper.mk (some 13) (.bin .leq (.tmp 11) (.tmp 12)) (some (10, true)) [4, 5, 3], AOper.mk (some 14) (.pick (.tmp 10) (.tmp 13) (.const (.bool false))) none [3, 6], AOper.mk (some 6) (.mv (.tmp 14)) none [7, 3, 0, 1, 2, 3, 4, 5, 6, 7]]
def l32 : AFn :=
  (AFn.mk 15 3 (ACode.seq (ACode.reg l32r0) (ACode.seq (ACode.reg l32r1) ACode.ret)) [ARes.tmp 6])
theorem l32_eq : lowFn Try.prog 32 = some l32 := by kernel_rfl
def l33r0 : List AOper :=
  [AOper.mk (some 1) (.box (.tmp 0)) none [], AOper.mk (some 2) (.alloc [.int .i64 0, .slice none 0 0, .slice none 0 0]) none [], AOper.mk (some 3) (.mv (.const (.bool false))) none []]
def l33r1 : List AOper :=
  [AOper.mk (some 4) (.load true 3 (.tmp 1)) none [], AOper.mk (some 5) (.call 31 [.tmp 4]) none [0], AOper.mk (some 6) (.un .not (.tmp 5)) none [1]]
def l33r2 : List AOper :=
  [AOper.mk (some 7) (.build [.int .i64 0, .slice none 0 0, .slice none 0 0] []) none [], AOper.mk none (.store 3 (.tmp 2) (.tmp 7)) none [0, 0], AOper.mk (some 3) (.mv (.const (.bool false))) none [1, 0, 1]]
def l33r3 : List AOper :=
  [AOper.mk (some 8) (.load true 3 (.tmp 1)) none [], AOper.mk (some 9) (.call 62 [.tmp 8]) none [0], AOper.mk none (.store 3 (.tmp 2) (.tmp 9)) none [1, 1, 0, 1], AOper.mk (some 3) (.mv (.const (.bool true))) none [2, 0, 1, 2]]
def l33 : AFn :=
  (AFn.mk 10 1 (ACode.seq (ACode.reg l33r0) (ACode.seq (ACode.seq (ACode.reg l33r1) (ACode.cond (.tmp 6) (ACode.seq (ACode.reg l33r2) ACode.ret) ACode.skip)) (ACode.seq (ACode.reg l33r3) ACode.ret))) [ARes.cell 2 true 3, ARes.tmp 3])
theorem l33_eq : lowFn Try.prog 33 = some l33 := by kernel_rfl
def l35r0 : List AOper :=
  [AOper.mk (some 1) (.box (.tmp 0)) none [], AOper.mk (some 2) (.mv (.const (.bool false))) none []]
def l35r1 : List AOper :=
  [AOper.mk (some 5) (.fld 1 (.tmp 1)) none [], AOper.mk (some 6) (.load false 1 (.tmp 5)) none [0], AOper.mk (some 7) (.call 42 [.tmp 6]) none [1], AOper.mk (some 8) (.un .not (.tmp 7)) none [2], AOper.mk (some 9) (.mv (.tmp 8)) none [3, 2], AOper.mk (some 10) (.fld 2 (.tmp 1)) (some (9, false)) [4], AOper.mk (some 11) (.load false 1 (.tmp 10)) (some (9, false)) [5, 4], AOper.mk (some 12) (.fld 1 (.tmp 1)) (some (9, false)) [4], AOper.mk (some 13) (.load false 1 (.tmp 12)) (some (9, false)) [7, 4], AOper.mk (some 14) (.len (.tmp 13)) (some (9, false)) [8, 4], AOper.mk (some 15) (.call 63 [.tmp 11, .tmp 14]) (some (9, false)) [6, 9, 4, 4], AOper.mk (some 16) (.un .not (.tmp 15)) (some (9, false)) [10, 4], AOper.mk (some 17) (.pick (.tmp 9) (.const (.bool true)) (.tmp 16)) none [4, 11], AOper.mk (some 18) (.mv (.tmp 17)) none [12, 10], AOper.mk (some 19) (.fld 0 (.tmp 1)) (some (18, false)) [13], AOper.mk (some 20) (.load false 1 (.tmp 19)) (some (18, false)) [14, 13], AOper.mk (some 21) (.call 36 [.tmp 20, .const (.int .i64 60)]) (some (18, false)) [15, 13, 13], AOper.mk (some 22) (.un .not (.tmp 21)) (some (18, false)) [16, 13], AOper.mk (some 23) (.pick (.tmp 18) (.const (.bool true)) (.tmp 22)) none [13, 17]]
def l35r2 : List AOper :=
  [AOper.mk (some 2) (.mv (.const (.bool false))) none []]
def l35r3 : List AOper :=
  [AOper.mk (some 25) (.load true 3 (.tmp 1)) none [], AOper.mk (some 26) (.call 64 [.tmp 25]) none [0], AOper.mk (some 24) (.mv (.tmp 26)) none [1], AOper.mk (some 27) (.extract (.tmp 24) 0) none [2], AOper.mk (some 28) (.extract (.tmp 24) 1) none [2], AOper.mk (some 3) (.mv (.tmp 27)) none [3, 1, 0, 1, 2, 3], AOper.mk (some 4) (.mv (.tmp 28)) none [4, 5, 0, 1, 2, 3, 4, 5]]
def l35r4 : List AOper :=
  [AOper.mk (some 29) (.load true 3 (.tmp 1)) none [], AOper.mk (some 30) (.call 65 [.tmp 29]) none [0], AOper.mk (some 31) (.bin .eql (.tmp 30) (.const (.int .i64 0))) none [1], AOper.mk (some 32) (.mv (.tmp 31)) none [2, 1], AOper.mk (some 33) (.mv (.tmp 3)) (some (32, false)) [3], AOper.mk (some 34) (.bin .geq (.tmp 33) (.const (.int .i64 0))) (some (32, false)) [4, 3], AOper.mk (some 35) (.mv (.tmp 34)) (some (32, false)) [5, 3, 3], AOper.mk (some 36) (.mv (.tmp 4)) (some (35, true)) [6], AOper.mk (some 37) (.bin .lss (.tmp 36) (.const (.int .i64 60))) (some (35, true)) [7, 6], AOper.mk (some 38) (.pick (.tmp 35) (.tmp 37) (.const (.bool false))) (some (32, false)) [6, 8, 3], AOper.mk (some 39) (.pick (.tmp 32) (.const (.bool true)) (.tmp 38)) none [3, 9], AOper.mk (some 2) (.mv (.tmp 39)) none [10, 6, 0, 1, 2, 3, 4, 5, 6, 7, 8, 9, 10]]
def l35 : AFn :=
  (AFn.mk 40 1 (ACode.seq (ACode.reg l35r0) (ACode.seq (ACode.seq (ACode.reg l35r1) (ACode.cond (.tmp 23) (ACode.seq (ACode.reg l35r2) ACode.ret) ACode.skip)) (ACode.seq (ACode.reg l35r3) (ACode.seq (ACode.reg l35r4) ACode.ret)))) [ARes.tmp 2])
theorem l35_eq : lowFn Try.prog 35 = some l35 := by kernel_rfl
def l36r0 : List AOper :=
  [AOper.mk (some 4) (.mv (.const (.bool false))) none []]
def l36r1 : List AOper :=
  [AOper.mk (some 5) (.mv (.tmp 0)) none [], AOper.mk (some 6) (.bin .leq (.const (.int .i64 0)) (.tmp 5)) none [0], AOper.mk (some 7) (.mv (.tmp 6)) none [1], AOper.mk (some 8) (.mv (.tmp 0)) (some (7, true)) [2], AOper.mk (some 9) (.mv (.tmp 1)) (some (7, true)) [2], AOper.mk (some 10) (.bin .leq (.tmp 8) (.tmp 9)) (some (7, true)) [3, 4, 2], AOper.mk (some 11) (.pick (.tmp 7) (.tmp 10) (.const (.bool false))) none [2, 5], AOper.mk (some 4) (.mv (.tmp 11)) none [6, 2, 0, 1, 2, 3, 4, 5, 6]]
def l36 : AFn :=
  (AFn.mk 12 2 (ACode.seq (ACode.reg l36r0) (ACode.seq (ACode.reg l36r1) ACode.ret)) [ARes.tmp 4])
theorem l36_eq : lowFn Try.prog 36 = some l36 := by kernel_rfl
def l37r0 : List AOper :=
  [AOper.mk (some 1) (.box (.tmp 0)) none [], AOper.mk (some 2) (.alloc [.int .i64 0, .slice none 0 0, .slice none 0 0, .int .i64 0, .int .i64 0, .int .i64 0, .int .i64 0, .slice none 0 0]) none []]
def l37r1 : List AOper :=
  [AOper.mk (some 6) (.load true 3 (.tmp 1)) none [], AOper.mk (some 7) (.build [.int .i64 0, .slice none 0 0, .slice none 0 0, .int .i64 0, .int .i64 0, .int .i64 0, .int .i64 0, .slice none 0 0] [(0, 3, .tmp 6)]) none [0], AOper.mk (some 3) (.alloc [.int .i64 0, .slice none 0 0, .slice none 0 0, .int .i64 0, .int .i64 0, .int .i64 0, .int .i64 0, .slice none 0 0]) none [], AOper.mk none (.store 8 (.tmp 3) (.tmp 7)) none [2, 1, 0, 1, 2]]
def l37r2 : List AOper :=
  [AOper.mk (some 8) (.fld 1 (.tmp 1)) none [], AOper.mk (some 9) (.load false 1 (.tmp 8)) none [0], AOper.mk (some 10) (.len (.tmp 9)) none [1], AOper.mk (some 11) (.mv (.const (.int .i64 0))) none []]
def l37r3 : List AOper :=
  [AOper.mk (some 12) (.bin .lss (.tmp 11) (.tmp 10)) none []]
def l37r4 : List AOper :=
  [AOper.mk (some 13) (.mv (.tmp 11)) none [], AOper.mk (some 14) (.idxA 1 (.tmp 9) (.tmp 11)) none [], AOper.mk (some 15) (.load false 1 (.tmp 14)) none [1], AOper.mk (some 4) (.mv (.tmp 13)) none [0, 0, 1, 2], AOper.mk (some 5) (.mv (.tmp 15)) none [2, 3, 0, 1, 2, 3]]
def l37r5a : List AOper :=
  [AOper.mk (some 16) (.fld 7 (.tmp 3)) none [], AOper.mk (some 17) (.load false 1 (.tmp 16)) none [0], AOper.mk (some 18) (.mv (.tmp 5)) none [], AOper.mk (some 19) (.fld 2 (.tmp 1)) none [], AOper.mk (some 20) (.load false 1 (.tmp 19)) none [3], AOper.mk (some 21) (.mv (.tmp 4)) none [], AOper.mk (some 22) (.idxA 1 (.tmp 20) (.tmp 21)) none [4, 5], AOper.mk (some 23) (.load false 1 (.tmp 22)) none [6], AOper.mk (some 24) (.build [.int .i64 0, .int .i64 0] [(0, 1, .tmp 18), (1, 1, .tmp 23)]) none [2, 7], AOper.mk (some 25) (.bslice 2 [.int .i64 0, .int .i64 0] [(0, .tmp 24)] 1) none [8]]
def l37r5b : List AOper :=
  [AOper.mk (some 26) (.append 2 (.tmp 17) (.tmp 25)) none [1, 9], AOper.mk (some 27) (.fld 7 (.tmp 3)) none [0, 1, 2, 3, 4, 5, 6, 7, 8, 9, 10], AOper.mk none (.store 1 (.tmp 27) (.tmp 26)) none [11, 10, 10, 0, 1, 2, 3, 4, 5, 6, 7, 8, 9, 10]]
def l37r5 : List AOper := l37r5a ++ l37r5b
def l37r6 : List AOper :=
  [AOper.mk (some 28) (.bin .add (.tmp 11) (.const (.int .i64 1))) none [], AOper.mk (some 11) (.mv (.tmp 28)) none [0]]
def l37r7 : List AOper :=
  [AOper.mk (some 29) (.load true 8 (.tmp 3)) none [], AOper.mk none (.store 8 (.tmp 2) (.tmp 29)) none [0, 0]]
def l37 : AFn :=
  (AFn.mk 30 1 (ACode.seq (ACode.reg l37r0) (ACode.seq (ACode.reg l37r1) (ACode.seq (ACode.seq (ACode.reg l37r2) (ACode.block 0 (ACode.loop (ACode.seq (ACode.reg l37r3) (ACode.seq (ACode.cond (.tmp 12) ACode.skip (ACode.exit 0)) (ACode.seq (ACode.block 1 (ACode.seq (ACode.reg l37r4) (ACode.draw l37r5))) (ACode.reg l37r6))))))) (ACode.seq (ACode.reg l37r7) ACode.ret)))) [ARes.cell 2 true 8])
theorem l37_eq : lowFn Try.prog 37 = some l37 := by kernel_rfl
def l39r0 : List AOper :=
  [AOper.mk (some 1) (.box (.tmp 0)) none [], AOper.mk (some 2) (.alloc [.int .i64 0, .slice none 0 0, .slice none 0 0]) none []]
def l39r1 : List AOper :=
  [AOper.mk (some 6) (.fld 0 (.tmp 1)) none [], AOper.mk (some 7) (.load true 3 (.tmp 6)) none [0], AOper.mk (some 8) (.fld 3 (.tmp 1)) none [], AOper.mk (some 9) (.load true 4 (.tmp 8)) none [2], AOper.mk (some 10) (.call 68 [.tmp 7, .tmp 9]) none [1, 3], AOper.mk (some 11) (.build [.int .i64 0, .slice none 0 0, .slice none 0 0] [(0, 1, .tmp 10)]) none [4], AOper.mk (some 3) (.alloc [.int .i64 0, .slice none 0 0, .slice none 0 0]) none [], AOper.mk none (.store 3 (.tmp 3) (.tmp 11)) none [6, 5, 4, 0, 1, 2, 3, 4, 5, 6]]
def l39r2 : List AOper :=
  [AOper.mk (some 12) (.fld 7 (.tmp 1)) none [], AOper.mk (some 13) (.load false 1 (.tmp 12)) none [0], AOper.mk (some 14) (.len (.tmp 13)) none [1], AOper.mk (some 15) (.mv (.const (.int .i64 0))) none []]
def l39r3 : List AOper :=
  [AOper.mk (some 16) (.bin .lss (.tmp 15) (.tmp 14)) none []]
def l39r4 : List AOper :=
  [AOper.mk (some 17) (.idxA 2 (.tmp 13) (.tmp 15)) none [], AOper.mk (some 18) (.load true 2 (.tmp 17)) none [0], AOper.mk (some 5) (.alloc [.int .i64 0, .int .i64 0]) none [], AOper.mk none (.store 2 (.tmp 5) (.tmp 18)) none [2, 1, 0, 1, 2]]
def l39r5 : List AOper :=
  [AOper.mk (some 19) (.fld 1 (.tmp 3)) none [], AOper.mk (some 20) (.load false 1 (.tmp 19)) none [0], AOper.mk (some 21) (.fld 0 (.tmp 5)) none [], AOper.mk (some 22) (.load false 1 (.tmp 21)) none [2], AOper.mk (some 23) (.bslice 1 [.int .i64 0] [(0, .tmp 22)] 1) none [3], AOper.mk (some 24) (.append 1 (.tmp 20) (.tmp 23)) none [1, 4], AOper.mk (some 25) (.fld 1 (.tmp 3)) none [0, 1, 2, 3, 4, 5], AOper.mk none (.store 1 (.tmp 25) (.tmp 24)) none [6, 5, 5, 0, 1, 2, 3, 4, 5]]
def l39r6 : List AOper :=
  [AOper.mk (some 26) (.fld 2 (.tmp 3)) none [], AOper.mk (some 27) (.load false 1 (.tmp 26)) none [0], AOper.mk (some 28) (.fld 1 (.tmp 5)) none [], AOper.mk (some 29) (.load false 1 (.tmp 28)) none [2], AOper.mk (some 30) (.bslice 1 [.int .i64 0] [(0, .tmp 29)] 1) none [3], AOper.mk (some 31) (.append 1 (.tmp 27) (.tmp 30)) none [1, 4], AOper.mk (some 32) (.fld 2 (.tmp 3)) none [0, 1, 2, 3, 4, 5], AOper.mk none (.store 1 (.tmp 32) (.tmp 31)) none [6, 5, 5, 0, 1, 2, 3, 4, 5]]
def l39r7 : List AOper :=
  [AOper.mk (some 33) (.bin .add (.tmp 15) (.const (.int .i64 1))) none [], AOper.mk (some 15) (.mv (.tmp 33)) none [0]]
def l39r8 : List AOper :=
  [AOper.mk (some 34) (.load true 3 (.tmp 3)) none [], AOper.mk none (.store 3 (.tmp 2) (.tmp 34)) none [0, 0]]
def l39 : AFn :=
  (AFn.mk 35 1 (ACode.seq (ACode.reg l39r0) (ACode.seq (ACode.reg l39r1) (ACode.seq (ACode.seq (ACode.reg l39r2) (ACode.block 0 (ACode.loop (ACode.seq (ACode.reg l39r3) (ACode.seq (ACode.cond (.tmp 16) ACode.skip (ACode.exit 0)) (ACode.seq (ACode.block 1 (ACode.seq (ACode.reg l39r4) (ACode.seq (ACode.reg l39r5) (ACode.reg l39r6)))) (ACode.reg l39r7))))))) (ACode.seq (ACode.reg l39r8) ACode.ret)))) [ARes.cell 2 true 3])
theorem l39_eq : lowFn Try.prog 39 = some l39 := by kernel_rfl
def l40r0 : List AOper :=
  [AOper.mk (some 2) (.mv (.const (.bool false))) none []]
def l40r1 : List AOper :=
  [AOper.mk (some 3) (.mv (.tmp 0)) none [], AOper.mk (some 4) (.len (.tmp 3)) none [0], AOper.mk (some 5) (.bin .leq (.tmp 4) (.const (.int .i64 4))) none [1], AOper.mk (some 6) (.mv (.tmp 5)) none [2], AOper.mk (some 7) (.mv (.tmp 0)) (some (6, true)) [3], AOper.mk (some 8) (.call 59 [.tmp 7, .const (.int .i64 0), .const (.int .i64 60)]) (some (6, true)) [4, 3, 3], AOper.mk (some 9) (.pick (.tmp 6) (.tmp 8) (.const (.bool false))) none [3, 5], AOper.mk (some 10) (.mv (.tmp 9)) none [6, 5], AOper.mk (some 11) (.mv (.tmp 0)) (some (10, true)) [7], AOper.mk (some 12) (.call 60 [.tmp 11]) (some (10, true)) [8, 7, 7], AOper.mk (some 13) (.bin .leq (.tmp 12) (.const (.int .i64 60))) (some (10, true)) [9, 7], AOper.mk (some 14) (.pick (.tmp 10) (.tmp 13) (.const (.bool false))) none [7, 10], AOper.mk (some 2) (.mv (.tmp 14)) none [11, 9, 0, 1, 2, 3, 4, 5, 6, 7, 8, 9, 10, 11]]
def l40 : AFn :=
  (AFn.mk 15 1 (ACode.seq (ACode.reg l40r0) (ACode.seq (ACode.reg l40r1) ACode.ret)) [ARes.tmp 2])
theorem l40_eq : lowFn Try.prog 40 = some l40 := by kernel_rfl
def l42r0 : List AOper :=
  [AOper.mk (some 2) (.mv (.const (.bool false))) none []]
def l42r1 : List AOper :=
  [AOper.mk (some 5) (.mv (.tmp 0)) none [], AOper.mk (some 6) (.len (.tmp 5)) none [0], AOper.mk (some 7) (.bin .gtr (.tmp 6) (.const (.int .i64 4))) none [1]]
def l42r2 : List AOper :=
  [AOper.mk (some 2) (.mv (.const (.bool false))) none []]
def l42r3 : List AOper :=
  [AOper.mk (some 8) (.mv (.tmp 0)) none [], AOper.mk (some 9) (.len (.tmp 8)) none [0], AOper.mk (some 10) (.mv (.const (.int .i64 0))) none []]
def l42r4 : List AOper :=
  [AOper.mk (some 11) (.bin .lss (.tmp 10) (.tmp 9)) none []]
def l42r5 : List AOper :=
  [AOper.mk (some 12) (.idxA 1 (.tmp 8) (.tmp 10)) none [], AOper.mk (some 13) (.load false 1 (.tmp 12)) none [0], AOper.mk (some 4) (.mv (.tmp 13)) none [1, 0, 1]]
def l42r6 : List AOper :=
  [AOper.mk (some 14) (.mv (.tmp 4)) none [], AOper.mk (some 15) (.call 36 [.tmp 14, .const (.int .i64 60)]) none [0], AOper.mk (some 16) (.un .not (.tmp 15)) none [1]]
def l42r7 : List AOper :=
  [AOper.mk (some 2) (.mv (.const (.bool false))) none []]
def l42r8 : List AOper :=
  [AOper.mk (some 17) (.bin .add (.tmp 10) (.const (.int .i64 1))) none [], AOper.mk (some 10) (.mv (.tmp 17)) none [0]]
def l42r9 : List AOper :=
  [AOper.mk (some 18) (.mv (.tmp 0)) none [], AOper.mk (some 19) (.call 69 [.tmp 18]) none [0], AOper.mk (some 20) (.bin .leq (.tmp 19) (.const (.int .i64 60))) none [1], AOper.mk (some 2) (.mv (.tmp 20)) none [2, 1, 0, 1, 2]]
def l42 : AFn :=
  (AFn.mk 21 1 (ACode.seq (ACode.reg l42r0) (ACode.seq (ACode.seq (ACode.reg l42r1) (ACode.cond (.tmp 7) (ACode.seq (ACode.reg l42r2) ACode.ret) ACode.skip)) (ACode.seq (ACode.seq (ACode.reg l42r3) (ACode.block 0 (ACode.loop (ACode.seq (ACode.reg l42r4) (ACode.seq (ACode.cond (.tmp 11) ACode.skip (ACode.exit 0)) (ACode.seq (ACode.block 1 (ACode.seq (ACode.reg l42r5) (ACode.seq (ACode.reg l42r6) (ACode.cond (.tmp 16) (ACode.seq (ACode.reg l42r7) ACode.ret) ACode.skip)))) (ACode.reg l42r8))))))) (ACode.seq (ACode.reg l42r9) ACode.ret)))) [ARes.tmp 2])
theorem l42_eq : lowFn Try.prog 42 = some l42 := by kernel_rfl
def l45r0 : List AOper :=
  [AOper.mk (some 2) (.box (.tmp 0)) none [], AOper.mk (some 4) (.alloc [.int .i64 0, .slice none 0 0, .slice none 0 0]) none [], AOper.mk (some 5) (.mv (.const (.bool false))) none []]
def l45r1a : List AOper :=
  [AOper.mk (some 9) (.fld 0 (.tmp 2)) none [], AOper.mk (some 10) (.load false 1 (.tmp 9)) none [0], AOper.mk (some 11) (.mv (.tmp 1)) none [], AOper.mk (some 12) (.call 72 [.tmp 11]) none [2], AOper.mk (some 13) (.mv (.tmp 1)) none [], AOper.mk (some 14) (.len (.tmp 13)) none [4], AOper.mk (some 15) (.mkslice 1 [.int .i64 0] (.tmp 14) (.tmp 14)) none [5, 5], AOper.mk (some 16) (.build [.int .i64 0, .slice none 0 0, .slice none 0 0] [(0, 1, .tmp 10), (1, 1, .tmp 12), (2, 1, .tmp 15)]) none [1, 3, 6], AOper.mk (some 6) (.alloc [.int .i64 0, .slice none 0 0, .slice none 0 0]) none []]
def l45r1b : List AOper :=
  [AOper.mk none (.store 3 (.tmp 6) (.tmp 16)) none [8, 7, 3, 0, 1, 2, 3, 4, 5, 6, 7, 8]]
def l45r1 : List AOper := l45r1a ++ l45r1b
def l45r2 : List AOper :=
  [AOper.mk (some 17) (.mv (.tmp 1)) none [], AOper.mk (some 18) (.len (.tmp 17)) none [0], AOper.mk (some 19) (.fld 1 (.tmp 2)) none [], AOper.mk (some 20) (.load false 1 (.tmp 19)) none [2], AOper.mk (some 21) (.len (.tmp 20)) none [3], AOper.mk (some 22) (.bin .sub (.tmp 18) (.tmp 21)) none [1, 4], AOper.mk (some 7) (.mv (.tmp 22)) none [5, 0, 1, 2, 3, 4, 5]]
def l45r3 : List AOper :=
  [AOper.mk (some 8) (.mv (.const (.int .i64 0))) none []]
def l45r4 : List AOper :=
  [AOper.mk (some 23) (.mv (.tmp 8)) none [], AOper.mk (some 24) (.fld 1 (.tmp 2)) none [], AOper.mk (some 25) (.load false 1 (.tmp 24)) none [1], AOper.mk (some 26) (.len (.tmp 25)) none [2], AOper.mk (some 27) (.bin .lss (.tmp 23) (.tmp 26)) none [0, 3], AOper.mk (some 28) (.mv (.tmp 27)) none [4], AOper.mk (some 29) (.mv (.tmp 7)) (some (28, true)) [5], AOper.mk (some 30) (.bin .geq (.tmp 29) (.const (.int .i64 0))) (some (28, true)) [6, 5], AOper.mk (some 31) (.pick (.tmp 28) (.tmp 30) (.const (.bool false))) none [5, 7]]
def l45r5a : List AOper :=
  [AOper.mk (some 35) (.fld 1 (.tmp 2)) none [], AOper.mk (some 36) (.load false 1 (.tmp 35)) none [0], AOper.mk (some 37) (.mv (.tmp 8)) none [], AOper.mk (some 38) (.idxA 1 (.tmp 36) (.tmp 37)) none [1, 2], AOper.mk (some 39) (.load false 1 (.tmp 38)) none [3], AOper.mk (some 40) (.mv (.tmp 1)) none [], AOper.mk (some 41) (.mv (.tmp 7)) none [], AOper.mk (some 42) (.mv (.tmp 8)) none [], AOper.mk (some 43) (.bin .add (.tmp 41) (.tmp 42)) none [6, 7], AOper.mk (some 44) (.idxA 1 (.tmp 40) (.tmp 43)) none [5, 8], AOper.mk (some 45) (.load false 1 (.tmp 44)) none [9]]
def l45r5b : List AOper :=
  [AOper.mk (some 46) (.bin .eql (.tmp 39) (.tmp 45)) none [4, 10], AOper.mk (some 34) (.mv (.tmp 46)) none [11]]
def l45r5 : List AOper := l45r5a ++ l45r5b
def l45r6a : List AOper :=
  [AOper.mk (some 47) (.fld 2 (.tmp 6)) none [], AOper.mk (some 48) (.load false 1 (.tmp 47)) none [0], AOper.mk (some 49) (.mv (.tmp 7)) none [], AOper.mk (some 50) (.mv (.tmp 8)) none [], AOper.mk (some 51) (.bin .add (.tmp 49) (.tmp 50)) none [2, 3], AOper.mk (some 52) (.fld 2 (.tmp 2)) none [], AOper.mk (some 53) (.load false 1 (.tmp 52)) none [5], AOper.mk (some 54) (.mv (.tmp 8)) none [], AOper.mk (some 55) (.idxA 1 (.tmp 53) (.tmp 54)) none [6, 7], AOper.mk (some 56) (.load false 1 (.tmp 55)) none [8]]
def l45r6b : List AOper :=
  [AOper.mk (some 57) (.idxA 1 (.tmp 48) (.tmp 51)) none [1, 4, 0, 1, 2, 3, 4, 5, 6, 7, 8, 9], AOper.mk none (.store 1 (.tmp 57) (.tmp 56)) none [10, 9, 0, 1, 2, 3, 4, 5, 6, 7, 8, 9]]
def l45r6 : List AOper := l45r6a ++ l45r6b
def l45r7 : List AOper :=
  [AOper.mk (some 59) (.fld 1 (.tmp 2)) none [], AOper.mk (some 60) (.load false 1 (.tmp 59)) none [0], AOper.mk (some 61) (.mv (.tmp 8)) none [], AOper.mk (some 62) (.idxA 1 (.tmp 60) (.tmp 61)) none [1, 2], AOper.mk (some 63) (.load false 1 (.tmp 62)) none [3], AOper.mk (some 64) (.bin .neq (.tmp 63) (.const (.int .i64 1))) none [4], AOper.mk (some 58) (.mv (.tmp 64)) none [5]]
def l45r8 : List AOper :=
  [AOper.mk (some 65) (.build [.int .i64 0, .slice none 0 0, .slice none 0 0] []) none [], AOper.mk none (.store 3 (.tmp 4) (.tmp 65)) none [0, 0], AOper.mk (some 5) (.mv (.const (.bool false))) none [1, 0, 1]]
def l45r9 : List AOper :=
  [AOper.mk (some 32) (.mv (.tmp 8)) none [], AOper.mk (some 33) (.bin .add (.tmp 32) (.const (.int .i64 1))) none [0], AOper.mk (some 8) (.mv (.tmp 33)) none [1, 0, 1]]
def l45r10 : List AOper :=
  [AOper.mk (some 66) (.mv (.tmp 1)) none [], AOper.mk (some 67) (.call 60 [.tmp 66]) none [0], AOper.mk (some 68) (.bin .eql (.tmp 67) (.const (.int .i64 0))) none [1]]
def l45r11 : List AOper :=
  [AOper.mk (some 69) (.fld 0 (.tmp 6)) none [], AOper.mk none (.store 1 (.tmp 69) (.const (.int .i64 0))) none [0]]
def l45r12 : List AOper :=
  [AOper.mk (some 70) (.mv (.tmp 1)) none [], AOper.mk (some 71) (.len (.tmp 70)) none [0], AOper.mk (some 72) (.mkslice 1 [.int .i64 0] (.tmp 71) (.tmp 71)) none [1, 1], AOper.mk (some 73) (.fld 2 (.tmp 6)) none [0, 1, 2], AOper.mk none (.store 1 (.tmp 73) (.tmp 72)) none [3, 2, 0, 1, 2]]
def l45r13 : List AOper :=
  [AOper.mk (some 74) (.load true 3 (.tmp 6)) none [], AOper.mk (some 75) (.mv (.tmp 7)) none [], AOper.mk (some 76) (.bin .geq (.tmp 75) (.const (.int .i64 0))) none [1], AOper.mk none (.store 3 (.tmp 4) (.tmp 74)) none [0, 0], AOper.mk (some 5) (.mv (.tmp 76)) none [2, 3, 0, 1, 2, 3]]
def l45 : AFn :=
  (AFn.mk 77 2 (ACode.seq (ACode.reg l45r0) (ACode.seq (ACode.draw l45r1) (ACode.seq (ACode.reg l45r2) (ACode.seq (ACode.seq (ACode.reg l45r3) (ACode.block 0 (ACode.loop (ACode.seq (ACode.seq (ACode.reg l45r4) (ACode.cond (.tmp 31) ACode.skip (ACode.exit 0))) (ACode.seq (ACode.block 1 (ACode.block 2 (ACode.seq (ACode.draw l45r5) (ACode.cond (.tmp 34) (ACode.draw l45r6) (ACode.seq (ACode.reg l45r7) (ACode.cond (.tmp 58) (ACode.seq (ACode.reg l45r8) ACode.ret) ACode.skip)))))) (ACode.reg l45r9)))))) (ACode.seq (ACode.seq (ACode.reg l45r10) (ACode.cond (.tmp 68) (ACode.seq (ACode.reg l45r11) (ACode.reg l45r12)) ACode.skip)) (ACode.seq (ACode.reg l45r13) ACode.ret)))))) [ARes.cell 4 true 3, ARes.tmp 5])
theorem l45_eq : lowFn Try.prog 45 = some l45 := by kernel_rfl
def l46r0 : List AOper :=
  [AOper.mk (some 2) (.mv (.const (.slice none 0 0))) none []]
def l46r1 : List AOper :=
  [AOper.mk (some 3) (.mv (.const (.int .i64 0))) none []]
def l46r2 : List AOper :=
  [AOper.mk (some 9) (.mv (.tmp 0)) none [], AOper.mk (some 10) (.len (.tmp 9)) none [0], AOper.mk (some 11) (.mv (.const (.int .i64 0))) none []]
def l46r3 : List AOper :=
  [AOper.mk (some 12) (.bin .lss (.tmp 11) (.tmp 10)) none []]
def l46r4 : List AOper :=
  [AOper.mk (some 13) (.idxA 1 (.tmp 9) (.tmp 11)) none [], AOper.mk (some 14) (.load false 1 (.tmp 13)) none [0], AOper.mk (some 5) (.mv (.tmp 14)) none [1, 0, 1]]
def l46r5 : List AOper :=
  [AOper.mk (some 15) (.mv (.tmp 3)) none [], AOper.mk (some 16) (.mv (.tmp 5)) none [], AOper.mk (some 17) (.len (.tmp 16)) none [1], AOper.mk (some 18) (.bin .add (.tmp 15) (.tmp 17)) none [0, 2], AOper.mk (some 3) (.mv (.tmp 18)) none [3, 0, 1, 2, 3]]
def l46r6 : List AOper :=
  [AOper.mk (some 19) (.mv (.tmp 3)) none [], AOper.mk (some 20) (.bin .lss (.tmp 19) (.const (.int .i64 0))) none [0]]
def l46r7 : List AOper :=
  [AOper.mk (some 21) (.raw (Op.makeInterface 9 (.const (.string (ByteArray.mk (Array.mk [(108 : UInt8), (101 : UInt8), (110 : UInt8), (32 : UInt8), (111 : UInt8), (117 : UInt8), (116 : UInt8), (32 : UInt8), (111 : UInt8), (102 : UInt8), (32 : UInt8), (114 : UInt8), (97 : UInt8), (110 : UInt8), (103 : UInt8), (101 : UInt8)])))))) none [], AOper.mk none (.raw (Op.panic (.tmp 21))) none [0]]
def l46r8 : List AOper :=
  [AOper.mk (some 22) (.bin .add (.tmp 11) (.const (.int .i64 1))) none [], AOper.mk (some 11) (.mv (.tmp 22)) none [0]]
def l46r9 : List AOper :=
  [AOper.mk (some 23) (.mv (.tmp 3)) none [], AOper.mk (some 24) (.call 73 [.const (.slice none 0 0), .tmp 23]) none [0], AOper.mk (some 6) (.mv (.tmp 24)) none [1, 1, 0, 1]]
def l46r10 : List AOper :=
  [AOper.mk (some 25) (.mv (.tmp 0)) none [], AOper.mk (some 26) (.len (.tmp 25)) none [0], AOper.mk (some 27) (.mv (.const (.int .i64 0))) none []]
def l46r11 : List AOper :=
  [AOper.mk (some 28) (.bin .lss (.tmp 27) (.tmp 26)) none []]
def l46r12 : List AOper :=
  [AOper.mk (some 29) (.idxA 1 (.tmp 25) (.tmp 27)) none [], AOper.mk (some 30) (.load false 1 (.tmp 29)) none [0], AOper.mk (some 8) (.mv (.tmp 30)) none [1, 0, 1]]
def l46r13 : List AOper :=
  [AOper.mk (some 31) (.mv (.tmp 6)) none [], AOper.mk (some 32) (.mv (.tmp 8)) none [], AOper.mk (some 33) (.append 2 (.tmp 31) (.tmp 32)) none [0, 1], AOper.mk (some 6) (.mv (.tmp 33)) none [2, 2, 0, 1, 2]]
def l46r14 : List AOper :=
  [AOper.mk (some 34) (.bin .add (.tmp 27) (.const (.int .i64 1))) none [], AOper.mk (some 27) (.mv (.tmp 34)) none [0]]
def l46r15 : List AOper :=
  [AOper.mk (some 35) (.mv (.tmp 6)) none [], AOper.mk (some 2) (.mv (.tmp 35)) none [0, 0]]
def l46 : AFn :=
  (AFn.mk 36 1 (ACode.seq (ACode.reg l46r0) (ACode.seq (ACode.reg l46r1) (ACode.seq (ACode.seq (ACode.reg l46r2) (ACode.block 0 (ACode.loop (ACode.seq (ACode.reg l46r3) (ACode.seq (ACode.cond (.tmp 12) ACode.skip (ACode.exit 0)) (ACode.seq (ACode.block 1 (ACode.seq (ACode.reg l46r4) (ACode.seq (ACode.reg l46r5) (ACode.seq (ACode.reg l46r6) (ACode.cond (.tmp 20) (ACode.reg l46r7) ACode.skip))))) (ACode.reg l46r8))))))) (ACode.seq (ACode.reg l46r9) (ACode.seq (ACode.seq (ACode.reg l46r10) (ACode.block 2 (ACode.loop (ACode.seq (ACode.reg l46r11) (ACode.seq (ACode.cond (.tmp 28) ACode.skip (ACode.exit 2)) (ACode.seq (ACode.block 3 (ACode.seq (ACode.reg l46r12) (ACode.reg l46r13))) (ACode.reg l46r14))))))) (ACode.seq (ACode.reg l46r15) ACode.ret)))))) [ARes.tmp 2])
theorem l46_eq : lowFn Try.prog 46 = some l46 := by kernel_rfl
def l47r0 : List AOper :=
  [AOper.mk (some 4) (.mv (.const (.slice none 0 0))) none []]
def l47r1 : List AOper :=
  [AOper.mk (some 9) (.mv (.tmp 1)) none [], AOper.mk (some 10) (.bin .lss (.tmp 9) (.const (.int .i64 0))) none [0]]
def l47r2 : List AOper :=
  [AOper.mk (some 11) (.raw (Op.makeInterface 9 (.const (.string (ByteArray.mk (Array.mk [(99 : UInt8), (97 : UInt8), (110 : UInt8), (110 : UInt8), (111 : UInt8), (116 : UInt8), (32 : UInt8), (98 : UInt8), (101 : UInt8), (32 : UInt8), (110 : UInt8), (101 : UInt8), (103 : UInt8), (97 : UInt8), (116 : UInt8), (105 : UInt8), (118 : UInt8), (101 : UInt8)])))))) none [], AOper.mk none (.raw (Op.panic (.tmp 11))) none [0]]
def l47r3 : List AOper :=
  [AOper.mk (some 13) (.mv (.tmp 0)) none [], AOper.mk (some 14) (.len (.tmp 13)) none [0], AOper.mk (some 15) (.conv .u64 (.tmp 14)) none [1], AOper.mk (some 16) (.mv (.tmp 1)) none [], AOper.mk (some 17) (.conv .u64 (.tmp 16)) none [3], AOper.mk (some 18) (.call 74 [.tmp 15, .tmp 17]) none [2, 4], AOper.mk (some 12) (.mv (.tmp 18)) none [5], AOper.mk (some 19) (.extract (.tmp 12) 0) none [6], AOper.mk (some 20) (.extract (.tmp 12) 1) none [6], AOper.mk (some 5) (.mv (.tmp 19)) none [7, 5, 0, 1, 2, 3, 4, 5, 6, 7], AOper.mk (some 6) (.mv (.tmp 20)) none [8, 9, 0, 1, 2, 3, 4, 5, 6, 7, 8, 9]]
def l47r4 : List AOper :=
  [AOper.mk (some 21) (.mv (.tmp 5)) none [], AOper.mk (some 22) (.bin .gtr (.tmp 21) (.const (.int .u64 0))) none [0], AOper.mk (some 23) (.mv (.tmp 22)) none [1], AOper.mk (some 24) (.mv (.tmp 6)) (some (23, false)) [2], AOper.mk (some 25) (.bin .gtr (.tmp 24) (.const (.int .u64 9223372036854775807))) (some (23, false)) [3, 2], AOper.mk (some 26) (.pick (.tmp 23) (.const (.bool true)) (.tmp 25)) none [2, 4]]
def l47r5 : List AOper :=
  [AOper.mk (some 27) (.raw (Op.makeInterface 9 (.const (.string (ByteArray.mk (Array.mk [(116 : UInt8), (104 : UInt8), (101 : UInt8), (32 : UInt8), (114 : UInt8), (101 : UInt8), (115 : UInt8), (117 : UInt8), (108 : UInt8), (116 : UInt8), (32 : UInt8), (111 : UInt8), (102 : UInt8), (32 : UInt8), (40 : UInt8), (108 : UInt8), (101 : UInt8), (110 : UInt8), (40 : UInt8), (120 : UInt8), (41 : UInt8), (32 : UInt8), (42 : UInt8), (32 : UInt8), (99 : UInt8), (111 : UInt8), (117 : UInt8), (110 : UInt8), (116 : UInt8), (41 : UInt8), (32 : UInt8), (111 : UInt8), (118 : UInt8), (101 : UInt8), (114 : UInt8), (102 : UInt8), (108 : UInt8), (111 : UInt8), (119 : UInt8), (115 : UInt8)])))))) none [], AOper.mk none (.raw (Op.panic (.tmp 27))) none [0]]
def l47r6 : List AOper :=
  [AOper.mk (some 28) (.mv (.tmp 6)) none [], AOper.mk (some 29) (.conv .i64 (.tmp 28)) none [0], AOper.mk (some 30) (.mkslice 2 [.int .i64 0, .int .i64 0] (.tmp 29) (.tmp 29)) none [1, 1], AOper.mk (some 7) (.mv (.tmp 30)) none [2, 0, 1, 2]]
def l47r7 : List AOper :=
  [AOper.mk (some 31) (.mv (.tmp 7)) none [], AOper.mk (some 32) (.mv (.tmp 0)) none [], AOper.mk (some 33) (.cpy 2 (.tmp 31) (.tmp 32)) none [0, 1], AOper.mk (some 8) (.mv (.tmp 33)) none [2, 2, 0, 1, 2]]
def l47r8 : List AOper :=
  [AOper.mk (some 34) (.mv (.tmp 8)) none [], AOper.mk (some 35) (.mv (.tmp 7)) none [], AOper.mk (some 36) (.len (.tmp 35)) none [1], AOper.mk (some 37) (.bin .lss (.tmp 34) (.tmp 36)) none [0, 2]]
def l47r9a : List AOper :=
  [AOper.mk (some 38) (.mv (.tmp 8)) none [], AOper.mk (some 39) (.mv (.tmp 7)) none [], AOper.mk (some 40) (.mv (.tmp 8)) none [], AOper.mk (some 41) (.slice 2 (.tmp 39) (some (.tmp 40)) none) none [1, 2], AOper.mk (some 42) (.mv (.tmp 7)) none [], AOper.mk (some 43) (.mv (.tmp 8)) none [], AOper.mk (some 44) (.slice 2 (.tmp 42) none (some (.tmp 43))) none [4, 5], AOper.mk (some 45) (.cpy 2 (.tmp 41) (.tmp 44)) none [3, 6]]
def l47r9b : List AOper :=
  [AOper.mk (some 46) (.bin .add (.tmp 38) (.tmp 45)) none [0, 7], AOper.mk (some 8) (.mv (.tmp 46)) none [8, 7, 0, 1, 2, 3, 4, 5, 6, 7, 8]]
def l47r9 : List AOper := l47r9a ++ l47r9b
def l47r10 : List AOper :=
  [AOper.mk (some 47) (.mv (.tmp 7)) none [], AOper.mk (some 4) (.mv (.tmp 47)) none [0, 0]]
def l47 : AFn :=
  (AFn.mk 48 2 (ACode.seq (ACode.reg l47r0) (ACode.seq (ACode.seq (ACode.reg l47r1) (ACode.cond (.tmp 10) (ACode.reg l47r2) ACode.skip)) (ACode.seq (ACode.reg l47r3) (ACode.seq (ACode.seq (ACode.reg l47r4) (ACode.cond (.tmp 26) (ACode.reg l47r5) ACode.skip)) (ACode.seq (ACode.reg l47r6) (ACode.seq (ACode.reg l47r7) (ACode.seq (ACode.block 0 (ACode.loop (ACode.seq (ACode.seq (ACode.reg l47r8) (ACode.cond (.tmp 37) ACode.skip (ACode.exit 0))) (ACode.block 1 (ACode.draw l47r9))))) (ACode.seq (ACode.reg l47r10) ACode.ret)))))))) [ARes.tmp 4])
theorem l47_eq : lowFn Try.prog 47 = some l47 := by kernel_rfl
def l48r0 : List AOper :=
  [AOper.mk (some 2) (.box (.tmp 0)) none [], AOper.mk (some 4) (.alloc [.int .i64 0, .int .i64 0]) none [], AOper.mk (some 5) (.mv (.const (.bool false))) none []]
def l48r1 : List AOper :=
  [AOper.mk (some 6) (.fld 0 (.tmp 2)) none [], AOper.mk (some 7) (.load false 1 (.tmp 6)) none [0], AOper.mk (some 8) (.mv (.tmp 1)) none [], AOper.mk (some 9) (.bin .eql (.tmp 7) (.tmp 8)) none [1, 2]]
def l48r2 : List AOper :=
  [AOper.mk (some 10) (.load true 2 (.tmp 2)) none [], AOper.mk none (.store 2 (.tmp 4) (.tmp 10)) none [0, 0], AOper.mk (some 5) (.mv (.const (.bool true))) none [1, 0, 1]]
def l48r3a : List AOper :=
  [AOper.mk (some 11) (.mv (.tmp 1)) none [], AOper.mk (some 12) (.build [.int .i64 0, .int .i64 0] [(0, 1, .tmp 11)]) none [0], AOper.mk (some 13) (.fld 0 (.tmp 2)) none [], AOper.mk (some 14) (.load false 1 (.tmp 13)) none [2], AOper.mk (some 15) (.bin .eql (.tmp 14) (.const (.int .i64 1))) none [3], AOper.mk none (.store 2 (.tmp 4) (.tmp 12)) none [1, 0, 1]]
def l48r3b : List AOper :=
  [AOper.mk (some 5) (.mv (.tmp 15)) none [4, 5, 0, 1, 2, 3, 4, 5]]
def l48r3 : List AOper := l48r3a ++ l48r3b
def l48 : AFn :=
  (AFn.mk 16 2 (ACode.seq (ACode.reg l48r0) (ACode.seq (ACode.seq (ACode.reg l48r1) (ACode.cond (.tmp 9) (ACode.seq (ACode.reg l48r2) ACode.ret) ACode.skip)) (ACode.seq (ACode.draw l48r3) ACode.ret))) [ARes.cell 4 true 2, ARes.tmp 5])
theorem l48_eq : lowFn Try.prog 48 = some l48 := by kernel_rfl
def l49r0 : List AOper :=
  [AOper.mk (some 1) (.box (.tmp 0)) none [], AOper.mk (some 2) (.alloc [.int .i64 0, .slice none 0 0, .slice none 0 0]) none []]
def l49r1 : List AOper :=
  [AOper.mk (some 4) (.load true 8 (.tmp 1)) none [], AOper.mk (some 5) (.call 39 [.tmp 4]) none [0], AOper.mk (some 3) (.alloc [.int .i64 0, .slice none 0 0, .slice none 0 0]) none [], AOper.mk none (.store 3 (.tmp 3) (.tmp 5)) none [2, 1, 1, 0, 1, 2]]
def l49r2 : List AOper :=
  [AOper.mk (some 6) (.load true 3 (.tmp 3)) none [], AOper.mk (some 7) (.call 65 [.tmp 6]) none [0], AOper.mk (some 8) (.bin .eql (.tmp 7) (.const (.int .i64 0))) none [1]]
def l49r3a : List AOper :=
  [AOper.mk (some 9) (.fld 1 (.tmp 3)) none [], AOper.mk (some 10) (.load false 1 (.tmp 9)) none [0], AOper.mk (some 11) (.len (.tmp 10)) none [1], AOper.mk (some 12) (.mkslice 1 [.int .i64 0] (.tmp 11) (.tmp 11)) none [2, 2], AOper.mk (some 13) (.fld 0 (.tmp 3)) none [0, 1], AOper.mk none (.store 1 (.tmp 13) (.const (.int .i64 0))) none [4, 0, 1]]
def l49r3b : List AOper :=
  [AOper.mk (some 14) (.fld 2 (.tmp 3)) none [0, 1, 2, 3, 4, 5], AOper.mk none (.store 1 (.tmp 14) (.tmp 12)) none [6, 3, 5, 0, 1, 2, 3, 4, 5]]
def l49r3 : List AOper := l49r3a ++ l49r3b
def l49r4 : List AOper :=
  [AOper.mk (some 15) (.load true 3 (.tmp 3)) none [], AOper.mk none (.store 3 (.tmp 2) (.tmp 15)) none [0, 0]]
def l49 : AFn :=
  (AFn.mk 16 1 (ACode.seq (ACode.reg l49r0) (ACode.seq (ACode.reg l49r1) (ACode.seq (ACode.seq (ACode.reg l49r2) (ACode.cond (.tmp 8) (ACode.draw l49r3) ACode.skip)) (ACode.seq (ACode.reg l49r4) ACode.ret)))) [ARes.cell 2 true 3])
theorem l49_eq : lowFn Try.prog 49 = some l49 := by kernel_rfl
def l59r0 : List AOper :=
  [AOper.mk (some 6) (.mv (.const (.bool false))) none []]
def l59r1 : List AOper :=
  [AOper.mk (some 7) (.mv (.const (.int .i64 0))) none []]
def l59r2 : List AOper :=
  [AOper.mk (some 8) (.mv (.tmp 7)) none [], AOper.mk (some 9) (.mv (.tmp 0)) none [], AOper.mk (some 10) (.len (.tmp 9)) none [1], AOper.mk (some 11) (.bin .lss (.tmp 8) (.tmp 10)) none [0, 2]]
def l59r3 : List AOper :=
  [AOper.mk (some 14) (.mv (.tmp 0)) none [], AOper.mk (some 15) (.mv (.tmp 7)) none [], AOper.mk (some 16) (.idxA 1 (.tmp 14) (.tmp 15)) none [0, 1], AOper.mk (some 17) (.load false 1 (.tmp 16)) none [2], AOper.mk (some 18) (.mv (.tmp 1)) none [], AOper.mk (some 19) (.mv (.tmp 2)) none [], AOper.mk (some 20) (.call 32 [.tmp 17, .tmp 18, .tmp 19]) none [3, 4, 5], AOper.mk (some 21) (.un .not (.tmp 20)) none [6]]
def l59r4 : List AOper :=
  [AOper.mk (some 6) (.mv (.const (.bool false))) none []]
def l59r5 : List AOper :=
  [AOper.mk (some 12) (.mv (.tmp 7)) none [], AOper.mk (some 13) (.bin .add (.tmp 12) (.const (.int .i64 1))) none [0], AOper.mk (some 7) (.mv (.tmp 13)) none [1, 0, 1]]
def l59r6 : List AOper :=
  [AOper.mk (some 6) (.mv (.const (.bool true))) none []]
def l59 : AFn :=
  (AFn.mk 22 3 (ACode.seq (ACode.reg l59r0) (ACode.seq (ACode.seq (ACode.reg l59r1) (ACode.block 0 (ACode.loop (ACode.seq (ACode.seq (ACode.reg l59r2) (ACode.cond (.tmp 11) ACode.skip (ACode.exit 0))) (ACode.seq (ACode.block 1 (ACode.seq (ACode.reg l59r3) (ACode.cond (.tmp 21) (ACode.seq (ACode.reg l59r4) ACode.ret) ACode.skip))) (ACode.reg l59r5)))))) (ACode.seq (ACode.reg l59r6) ACode.ret))) [ARes.tmp 6])
theorem l59_eq : lowFn Try.prog 59 = some l59 := by kernel_rfl
def l60r0 : List AOper :=
  [AOper.mk (some 2) (.mv (.const (.int .i64 0))) none []]
def l60r1 : List AOper :=
  [AOper.mk (some 3) (.mv (.const (.int .i64 1))) none []]
def l60r2 : List AOper :=
  [AOper.mk (some 4) (.mv (.const (.int .i64 0))) none []]
def l60r3 : List AOper :=
  [AOper.mk (some 5) (.mv (.tmp 4)) none [], AOper.mk (some 6) (.mv (.tmp 0)) none [], AOper.mk (some 7) (.len (.tmp 6)) none [1], AOper.mk (some 8) (.bin .lss (.tmp 5) (.tmp 7)) none [0, 2]]
def l60r4 : List AOper :=
  [AOper.mk (some 11) (.mv (.tmp 3)) none [], AOper.mk (some 12) (.mv (.tmp 0)) none [], AOper.mk (some 13) (.mv (.tmp 4)) none [], AOper.mk (some 14) (.idxA 1 (.tmp 12) (.tmp 13)) none [1, 2], AOper.mk (some 15) (.load false 1 (.tmp 14)) none [3], AOper.mk (some 16) (.bin .mul (.tmp 11) (.tmp 15)) none [0, 4], AOper.mk (some 3) (.mv (.tmp 16)) none [5, 0, 1, 2, 3, 4, 5]]
def l60r5 : List AOper :=
  [AOper.mk (some 9) (.mv (.tmp 4)) none [], AOper.mk (some 10) (.bin .add (.tmp 9) (.const (.int .i64 1))) none [0], AOper.mk (some 4) (.mv (.tmp 10)) none [1, 0, 1]]
def l60r6 : List AOper :=
  [AOper.mk (some 17) (.mv (.tmp 3)) none [], AOper.mk (some 2) (.mv (.tmp 17)) none [0, 0]]
def l60 : AFn :=
  (AFn.mk 18 1 (ACode.seq (ACode.reg l60r0) (ACode.seq (ACode.reg l60r1) (ACode.seq (ACode.seq (ACode.reg l60r2) (ACode.block 0 (ACode.loop (ACode.seq (ACode.seq (ACode.reg l60r3) (ACode.cond (.tmp 8) ACode.skip (ACode.exit 0))) (ACode.seq (ACode.block 1 (ACode.reg l60r4)) (ACode.reg l60r5)))))) (ACode.seq (ACode.reg l60r6) ACode.ret)))) [ARes.tmp 2])
theorem l60_eq : lowFn Try.prog 60 = some l60 := by kernel_rfl
def l61r0 : List AOper :=
  [AOper.mk (some 1) (.box (.tmp 0)) none [], AOper.mk (some 2) (.mv (.const (.slice none 0 0))) none []]
def l61r1 : List AOper :=
  [AOper.mk (some 5) (.bslice 1 [.int .i64 0] [] 0) none [], AOper.mk (some 3) (.mv (.tmp 5)) none [0, 0]]
def l61r2 : List AOper :=
  [AOper.mk (some 4) (.mv (.const (.int .i64 0))) none []]
def l61r3 : List AOper :=
  [AOper.mk (some 6) (.mv (.tmp 4)) none [], AOper.mk (some 7) (.fld 1 (.tmp 1)) none [], AOper.mk (some 8) (.load false 1 (.tmp 7)) none [1], AOper.mk (some 9) (.call 60 [.tmp 8]) none [2], AOper.mk (some 10) (.bin .lss (.tmp 6) (.tmp 9)) none [0, 3]]
def l61r4a : List AOper :=
  [AOper.mk (some 13) (.mv (.tmp 3)) none [], AOper.mk (some 14) (.load true 3 (.tmp 1)) none [], AOper.mk (some 15) (.fld 1 (.tmp 1)) none [], AOper.mk (some 16) (.load false 1 (.tmp 15)) none [2], AOper.mk (some 17) (.mv (.tmp 4)) none [], AOper.mk (some 18) (.call 86 [.tmp 16, .tmp 17]) none [3, 4], AOper.mk (some 19) (.call 85 [.tmp 14, .tmp 18]) none [1, 5, 5], AOper.mk (some 20) (.bslice 1 [.int .i64 0] [(0, .tmp 19)] 1) none [6]]
def l61r4b : List AOper :=
  [AOper.mk (some 21) (.append 1 (.tmp 13) (.tmp 20)) none [0, 7, 6], AOper.mk (some 3) (.mv (.tmp 21)) none [8, 8, 0, 1, 2, 3, 4, 5, 6, 7, 8]]
def l61r4 : List AOper := l61r4a ++ l61r4b
def l61r5 : List AOper :=
  [AOper.mk (some 11) (.mv (.tmp 4)) none [], AOper.mk (some 12) (.bin .add (.tmp 11) (.const (.int .i64 1))) none [0], AOper.mk (some 4) (.mv (.tmp 12)) none [1, 0, 1]]
def l61r6 : List AOper :=
  [AOper.mk (some 22) (.mv (.tmp 3)) none [], AOper.mk (some 2) (.mv (.tmp 22)) none [0, 0]]
def l61 : AFn :=
  (AFn.mk 23 1 (ACode.seq (ACode.reg l61r0) (ACode.seq (ACode.reg l61r1) (ACode.seq (ACode.seq (ACode.reg l61r2) (ACode.block 0 (ACode.loop (ACode.seq (ACode.seq (ACode.reg l61r3) (ACode.cond (.tmp 10) ACode.skip (ACode.exit 0))) (ACode.seq (ACode.block 1 (ACode.draw l61r4)) (ACode.reg l61r5)))))) (ACode.seq (ACode.reg l61r6) ACode.ret)))) [ARes.tmp 2])
theorem l61_eq : lowFn Try.prog 61 = some l61 := by kernel_rfl
def l62r0 : List AOper :=
  [AOper.mk (some 1) (.box (.tmp 0)) none [], AOper.mk (some 2) (.alloc [.int .i64 0, .slice none 0 0, .slice none 0 0]) none []]
def l62r1a : List AOper :=
  [AOper.mk (some 3) (.fld 0 (.tmp 1)) none [], AOper.mk (some 4) (.load false 1 (.tmp 3)) none [0], AOper.mk (some 5) (.fld 1 (.tmp 1)) none [], AOper.mk (some 6) (.load false 1 (.tmp 5)) none [2], AOper.mk (some 7) (.call 72 [.tmp 6]) none [3], AOper.mk (some 8) (.fld 2 (.tmp 1)) none [], AOper.mk (some 9) (.load false 1 (.tmp 8)) none [5], AOper.mk (some 10) (.call 72 [.tmp 9]) none [6, 4]]
def l62r1b : List AOper :=
  [AOper.mk (some 11) (.build [.int .i64 0, .slice none 0 0, .slice none 0 0] [(0, 1, .tmp 4), (1, 1, .tmp 7), (2, 1, .tmp 10)]) none [1, 4, 7], AOper.mk none (.store 3 (.tmp 2) (.tmp 11)) none [8, 7, 0, 1, 2, 3, 4, 5, 6, 7, 8]]
def l62r1 : List AOper := l62r1a ++ l62r1b
def l62 : AFn :=
  (AFn.mk 12 1 (ACode.seq (ACode.reg l62r0) (ACode.seq (ACode.draw l62r1) ACode.ret)) [ARes.cell 2 true 3])
theorem l62_eq : lowFn Try.prog 62 = some l62 := by kernel_rfl
def l63r0 : List AOper :=
  [AOper.mk (some 4) (.mv (.const (.bool false))) none []]
def l63r1 : List AOper :=
  [AOper.mk (some 7) (.mv (.tmp 0)) none [], AOper.mk (some 8) (.len (.tmp 7)) none [0], AOper.mk (some 9) (.mv (.tmp 1)) none [], AOper.mk (some 10) (.bin .neq (.tmp 8) (.tmp 9)) none [1, 2]]
def l63r2 : List AOper :=
  [AOper.mk (some 4) (.mv (.const (.bool false))) none []]
def l63r3 : List AOper :=
  [AOper.mk (some 11) (.mv (.tmp 0)) none [], AOper.mk (some 12) (.len (.tmp 11)) none [0], AOper.mk (some 13) (.mv (.const (.int .i64 0))) none []]
def l63r4 : List AOper :=
  [AOper.mk (some 14) (.bin .lss (.tmp 13) (.tmp 12)) none []]
def l63r5 : List AOper :=
  [AOper.mk (some 15) (.idxA 1 (.tmp 11) (.tmp 13)) none [], AOper.mk (some 16) (.load false 1 (.tmp 15)) none [0], AOper.mk (some 6) (.mv (.tmp 16)) none [1, 0, 1]]
def l63r6 : List AOper :=
  [AOper.mk (some 17) (.mv (.tmp 6)) none [], AOper.mk (some 18) (.call 87 [.tmp 17, .const (.int .i64 60)]) none [0], AOper.mk (some 19) (.un .not (.tmp 18)) none [1]]
def l63r7 : List AOper :=
  [AOper.mk (some 4) (.mv (.const (.bool false))) none []]
def l63r8 : List AOper :=
  [AOper.mk (some 20) (.bin .add (.tmp 13) (.const (.int .i64 1))) none [], AOper.mk (some 13) (.mv (.tmp 20)) none [0]]
def l63r9 : List AOper :=
  [AOper.mk (some 4) (.mv (.const (.bool true))) none []]
def l63 : AFn :=
  (AFn.mk 21 2 (ACode.seq (ACode.reg l63r0) (ACode.seq (ACode.seq (ACode.reg l63r1) (ACode.cond (.tmp 10) (ACode.seq (ACode.reg l63r2) ACode.ret) ACode.skip)) (ACode.seq (ACode.seq (ACode.reg l63r3) (ACode.block 0 (ACode.loop (ACode.seq (ACode.reg l63r4) (ACode.seq (ACode.cond (.tmp 14) ACode.skip (ACode.exit 0)) (ACode.seq (ACode.block 1 (ACode.seq (ACode.reg l63r5) (ACode.seq (ACode.reg l63r6) (ACode.cond (.tmp 19) (ACode.seq (ACode.reg l63r7) ACode.ret) ACode.skip)))) (ACode.reg l63r8))))))) (ACode.seq (ACode.reg l63r9) ACode.ret)))) [ARes.tmp 4])
theorem l63_eq : lowFn Try.prog 63 = some l63 := by kernel_rfl
def l64r0 : List AOper :=
  [AOper.mk (some 1) (.box (.tmp 0)) none [], AOper.mk (some 2) (.mv (.const (.int .i64 0))) none [], AOper.mk (some 3) (.mv (.const (.int .i64 0))) none [1]]
def l64r1 : List AOper :=
  [AOper.mk (some 9) (.load true 3 (.tmp 1)) none [], AOper.mk (some 10) (.call 65 [.tmp 9]) none [0], AOper.mk (some 11) (.bin .eql (.tmp 10) (.const (.int .i64 0))) none [1]]
def l64r2 : List AOper :=
  [AOper.mk (some 2) (.mv (.const (.int .i64 (-1)))) none [], AOper.mk (some 3) (.mv (.const (.int .i64 (-1)))) none [0, 0]]
def l64r3a : List AOper :=
  [AOper.mk (some 12) (.fld 0 (.tmp 1)) none [], AOper.mk (some 13) (.load false 1 (.tmp 12)) none [0], AOper.mk (some 14) (.fld 0 (.tmp 1)) none [], AOper.mk (some 15) (.load false 1 (.tmp 14)) none [2], AOper.mk (some 4) (.mv (.tmp 13)) none [1, 0, 1]]
def l64r3b : List AOper :=
  [AOper.mk (some 5) (.mv (.tmp 15)) none [3, 4, 0, 1, 2, 3, 4]]
def l64r3 : List AOper := l64r3a ++ l64r3b
def l64r4 : List AOper :=
  [AOper.mk (some 16) (.fld 2 (.tmp 1)) none [], AOper.mk (some 17) (.load false 1 (.tmp 16)) none [0], AOper.mk (some 18) (.len (.tmp 17)) none [1], AOper.mk (some 19) (.mv (.const (.int .i64 0))) none []]
def l64r5 : List AOper :=
  [AOper.mk (some 20) (.bin .lss (.tmp 19) (.tmp 18)) none []]
def l64r6 : List AOper :=
  [AOper.mk (some 21) (.mv (.tmp 19)) none [], AOper.mk (some 22) (.idxA 1 (.tmp 17) (.tmp 19)) none [], AOper.mk (some 23) (.load false 1 (.tmp 22)) none [1], AOper.mk (some 6) (.mv (.tmp 21)) none [0, 0, 1, 2], AOper.mk (some 7) (.mv (.tmp 23)) none [2, 3, 0, 1, 2, 3]]
def l64r7 : List AOper :=
  [AOper.mk (some 24) (.fld 1 (.tmp 1)) none [], AOper.mk (some 25) (.load false 1 (.tmp 24)) none [0], AOper.mk (some 26) (.mv (.tmp 6)) none [], AOper.mk (some 27) (.idxA 1 (.tmp 25) (.tmp 26)) none [1, 2], AOper.mk (some 28) (.load false 1 (.tmp 27)) none [3], AOper.mk (some 29) (.bin .sub (.tmp 28) (.const (.int .i64 1))) none [4], AOper.mk (some 30) (.mv (.tmp 7)) none [], AOper.mk (some 31) (.bin .mul (.tmp 29) (.tmp 30)) none [5, 6], AOper.mk (some 8) (.mv (.tmp 31)) none [7, 0, 1, 2, 3, 4, 5, 6, 7]]
def l64r8 : List AOper :=
  [AOper.mk (some 32) (.mv (.tmp 4)) none [], AOper.mk (some 33) (.mv (.tmp 8)) none [], AOper.mk (some 34) (.minmax false (.tmp 33) (.const (.int .i64 0))) none [1], AOper.mk (some 35) (.bin .add (.tmp 32) (.tmp 34)) none [0, 2], AOper.mk (some 4) (.mv (.tmp 35)) none [3, 0, 1, 2, 3]]
def l64r9 : List AOper :=
  [AOper.mk (some 36) (.mv (.tmp 5)) none [], AOper.mk (some 37) (.mv (.tmp 8)) none [], AOper.mk (some 38) (.minmax true (.tmp 37) (.const (.int .i64 0))) none [1], AOper.mk (some 39) (.bin .add (.tmp 36) (.tmp 38)) none [0, 2], AOper.mk (some 5) (.mv (.tmp 39)) none [3, 0, 1, 2, 3]]
def l64r10 : List AOper :=
  [AOper.mk (some 40) (.bin .add (.tmp 19) (.const (.int .i64 1))) none [], AOper.mk (some 19) (.mv (.tmp 40)) none [0]]
def l64r11 : List AOper :=
  [AOper.mk (some 41) (.mv (.tmp 4)) none [], AOper.mk (some 42) (.mv (.tmp 5)) none [], AOper.mk (some 2) (.mv (.tmp 41)) none [0, 0], AOper.mk (some 3) (.mv (.tmp 42)) none [1, 2, 0, 1, 2]]
def l64 : AFn :=
  (AFn.mk 43 1 (ACode.seq (ACode.reg l64r0) (ACode.seq (ACode.seq (ACode.reg l64r1) (ACode.cond (.tmp 11) (ACode.seq (ACode.reg l64r2) ACode.ret) ACode.skip)) (ACode.seq (ACode.draw l64r3) (ACode.seq (ACode.seq (ACode.reg l64r4) (ACode.block 0 (ACode.loop (ACode.seq (ACode.reg l64r5) (ACode.seq (ACode.cond (.tmp 20) ACode.skip (ACode.exit 0)) (ACode.seq (ACode.block 1 (ACode.seq (ACode.reg l64r6) (ACode.seq (ACode.reg l64r7) (ACode.seq (ACode.reg l64r8) (ACode.reg l64r9))))) (ACode.reg l64r10))))))) (ACode.seq (ACode.reg l64r11) ACode.ret))))) [ARes.tmp 2, ARes.tmp 3])
theorem l64_eq : lowFn Try.prog 64 = some l64 := by kernel_rfl
def l65r0 : List AOper :=
  [AOper.mk (some 1) (.box (.tmp 0)) none [], AOper.mk (some 2) (.mv (.const (.int .i64 0))) none []]
def l65r1 : List AOper :=
  [AOper.mk (some 3) (.fld 1 (.tmp 1)) none [], AOper.mk (some 4) (.load false 1 (.tmp 3)) none [0], AOper.mk (some 5) (.call 69 [.tmp 4]) none [1], AOper.mk (some 2) (.mv (.tmp 5)) none [2, 2, 0, 1, 2]]
def l65 : AFn :=
  (AFn.mk 6 1 (ACode.seq (ACode.reg l65r0) (ACode.seq (ACode.reg l65r1) ACode.ret)) [ARes.tmp 2])
theorem l65_eq : lowFn Try.prog 65 = some l65 := by kernel_rfl
def l68r0 : List AOper :=
  [AOper.mk (some 2) (.box (.tmp 0)) none [], AOper.mk (some 3) (.box (.tmp 1)) none [], AOper.mk (some 4) (.mv (.const (.int .i64 0))) none []]
def l68r1a : List AOper :=
  [AOper.mk (some 5) (.fld 0 (.tmp 2)) none [], AOper.mk (some 6) (.load false 1 (.tmp 5)) none [0], AOper.mk (some 7) (.load true 4 (.tmp 3)) none [], AOper.mk (some 8) (.fld 2 (.tmp 2)) none [], AOper.mk (some 9) (.load false 1 (.tmp 8)) none [3], AOper.mk (some 10) (.call 89 [.tmp 7, .tmp 9]) none [2, 4]]
def l68r1b : List AOper :=
  [AOper.mk (some 11) (.bin .add (.tmp 6) (.tmp 10)) none [1, 5], AOper.mk (some 4) (.mv (.tmp 11)) none [6, 5, 0, 1, 2, 3, 4, 5, 6]]
def l68r1 : List AOper := l68r1a ++ l68r1b
def l68 : AFn :=
  (AFn.mk 12 2 (ACode.seq (ACode.reg l68r0) (ACode.seq (ACode.draw l68r1) ACode.ret)) [ARes.tmp 4])
theorem l68_eq : lowFn Try.prog 68 = some l68 := by kernel_rfl
def l69r0 : List AOper :=
  [AOper.mk (some 2) (.mv (.const (.int .i64 0))) none []]
def l69r1 : List AOper :=
  [AOper.mk (some 3) (.mv (.const (.int .i64 1))) none []]
def l69r2 : List AOper :=
  [AOper.mk (some 6) (.mv (.tmp 0)) none [], AOper.mk (some 7) (.len (.tmp 6)) none [0], AOper.mk (some 8) (.mv (.const (.int .i64 0))) none []]
def l69r3 : List AOper :=
  [AOper.mk (some 9) (.bin .lss (.tmp 8) (.tmp 7)) none []]
def l69r4 : List AOper :=
  [AOper.mk (some 10) (.idxA 1 (.tmp 6) (.tmp 8)) none [], AOper.mk (some 11) (.load false 1 (.tmp 10)) none [0], AOper.mk (some 5) (.mv (.tmp 11)) none [1, 0, 1]]
def l69r5 : List AOper :=
  [AOper.mk (some 12) (.mv (.tmp 3)) none [], AOper.mk (some 13) (.mv (.tmp 5)) none [], AOper.mk (some 14) (.bin .mul (.tmp 12) (.tmp 13)) none [0, 1], AOper.mk (some 3) (.mv (.tmp 14)) none [2, 0, 1, 2]]
def l69r6 : List AOper :=
  [AOper.mk (some 15) (.bin .add (.tmp 8) (.const (.int .i64 1))) none [], AOper.mk (some 8) (.mv (.tmp 15)) none [0]]
def l69r7 : List AOper :=
  [AOper.mk (some 16) (.mv (.tmp 3)) none [], AOper.mk (some 2) (.mv (.tmp 16)) none [0, 0]]
def l69 : AFn :=
  (AFn.mk 17 1 (ACode.seq (ACode.reg l69r0) (ACode.seq (ACode.reg l69r1) (ACode.seq (ACode.seq (ACode.reg l69r2) (ACode.block 0 (ACode.loop (ACode.seq (ACode.reg l69r3) (ACode.seq (ACode.cond (.tmp 9) ACode.skip (ACode.exit 0)) (ACode.seq (ACode.block 1 (ACode.seq (ACode.reg l69r4) (ACode.reg l69r5))) (ACode.reg l69r6))))))) (ACode.seq (ACode.reg l69r7) ACode.ret)))) [ARes.tmp 2])
theorem l69_eq : lowFn Try.prog 69 = some l69 := by kernel_rfl
def l72r0 : List AOper :=
  [AOper.mk (some 2) (.mv (.const (.slice none 0 0))) none []]
def l72r1 : List AOper :=
  [AOper.mk (some 3) (.bslice 1 [.int .i64 0] [] 0) none [], AOper.mk (some 4) (.mv (.tmp 0)) none [], AOper.mk (some 5) (.append 1 (.tmp 3) (.tmp 4)) none [0, 1], AOper.mk (some 2) (.mv (.tmp 5)) none [2, 2, 0, 1, 2]]
def l72 : AFn :=
  (AFn.mk 6 1 (ACode.seq (ACode.reg l72r0) (ACode.seq (ACode.reg l72r1) ACode.ret)) [ARes.tmp 2])
theorem l72_eq : lowFn Try.prog 72 = some l72 := by kernel_rfl
def l73r0 : List AOper :=
  [AOper.mk (some 4) (.mv (.const (.slice none 0 0))) none []]
def l73r1 : List AOper :=
  [AOper.mk (some 5) (.mv (.tmp 1)) none [], AOper.mk (some 6) (.bin .lss (.tmp 5) (.const (.int .i64 0))) none [0]]
def l73r2 : List AOper :=
  [AOper.mk (some 7) (.raw (Op.makeInterface 9 (.const (.string (ByteArray.mk (Array.mk [(99 : UInt8), (97 : UInt8), (110 : UInt8), (110 : UInt8), (111 : UInt8), (116 : UInt8), (32 : UInt8), (98 : UInt8), (101 : UInt8), (32 : UInt8), (110 : UInt8), (101 : UInt8), (103 : UInt8), (97 : UInt8), (116 : UInt8), (105 : UInt8), (118 : UInt8), (101 : UInt8)])))))) none [], AOper.mk none (.raw (Op.panic (.tmp 7))) none [0]]
def l73r3 : List AOper :=
  [AOper.mk (some 8) (.mv (.tmp 1)) none [], AOper.mk (some 9) (.mv (.tmp 0)) none [], AOper.mk (some 10) (.raw (Op.call (Call.mk (Callee.builtin Builtin.cap) (Array.mk [.tmp 9]) (Array.mk [51])))) none [1], AOper.mk (some 11) (.mv (.tmp 0)) none [], AOper.mk (some 12) (.len (.tmp 11)) none [3], AOper.mk (some 13) (.bin .sub (.tmp 10) (.tmp 12)) none [2, 4], AOper.mk (some 14) (.bin .sub (.tmp 8) (.tmp 13)) none [0, 5], AOper.mk (some 1) (.mv (.tmp 14)) none [6, 0, 1, 2, 3, 4, 5, 6]]
def l73r4 : List AOper :=
  [AOper.mk (some 15) (.mv (.tmp 1)) none [], AOper.mk (some 16) (.bin .gtr (.tmp 15) (.const (.int .i64 0))) none [0]]
def l73r5 : List AOper :=
  [AOper.mk (some 17) (.mv (.tmp 0)) none [], AOper.mk (some 18) (.mv (.tmp 0)) none [], AOper.mk (some 19) (.raw (Op.call (Call.mk (Callee.builtin Builtin.cap) (Array.mk [.tmp 18]) (Array.mk [51])))) none [1], AOper.mk (some 20) (.slice 2 (.tmp 17) none (some (.tmp 19))) none [0, 2], AOper.mk (some 21) (.mv (.tmp 1)) none [], AOper.mk (some 22) (.raw (Op.call (Call.mk (Callee.builtin Builtin.append) (Array.mk [.tmp 20, .tmp 21]) (Array.mk [51, 3])))) none [3, 4], AOper.mk (some 23) (.mv (.tmp 0)) none [], AOper.mk (some 24) (.len (.tmp 23)) none [6], AOper.mk (some 25) (.slice 2 (.tmp 22) none (some (.tmp 24))) none [5, 7], AOper.mk (some 0) (.mv (.tmp 25)) none [8, 5, 0, 1, 2, 3, 4, 5, 6, 7, 8]]
def l73r6 : List AOper :=
  [AOper.mk (some 26) (.mv (.tmp 0)) none [], AOper.mk (some 4) (.mv (.tmp 26)) none [0, 0]]
def l73 : AFn :=
  (AFn.mk 27 2 (ACode.seq (ACode.reg l73r0) (ACode.seq (ACode.seq (ACode.reg l73r1) (ACode.cond (.tmp 6) (ACode.reg l73r2) ACode.skip)) (ACode.seq (ACode.seq (ACode.reg l73r3) (ACode.seq (ACode.reg l73r4) (ACode.cond (.tmp 16) (ACode.reg l73r5) ACode.skip))) (ACode.seq (ACode.reg l73r6) ACode.ret)))) [ARes.tmp 4])
theorem l73_eq : lowFn Try.prog 73 = some l73 := by kernel_rfl
def l74r0 : List AOper :=
  [AOper.mk (some 4) (.mv (.const (.int .u64 0))) none [], AOper.mk (some 5) (.mv (.const (.int .u64 0))) none [0]]
def l74r1 : List AOper :=
  [AOper.mk (some 11) (.mv (.tmp 0)) none [], AOper.mk (some 12) (.conv .u32 (.tmp 11)) none [0], AOper.mk (some 13) (.mv (.tmp 1)) none [], AOper.mk (some 14) (.conv .u32 (.tmp 13)) none [2], AOper.mk (some 15) (.call 91 [.tmp 12, .tmp 14]) none [1, 3], AOper.mk (some 10) (.mv (.tmp 15)) none [4], AOper.mk (some 16) (.extract (.tmp 10) 0) none [5], AOper.mk (some 17) (.extract (.tmp 10) 1) none [5], AOper.mk (some 6) (.mv (.tmp 16)) none [6, 4, 0, 1, 2, 3, 4, 5, 6], AOper.mk (some 7) (.mv (.tmp 17)) none [7, 8, 0, 1, 2, 3, 4, 5, 6, 7, 8]]
def l74r2 : List AOper :=
  [AOper.mk (some 18) (.mv (.tmp 6)) none [], AOper.mk (some 19) (.conv .u64 (.tmp 18)) none [0], AOper.mk (some 20) (.mv (.tmp 7)) none [], AOper.mk (some 21) (.conv .u64 (.tmp 20)) none [2], AOper.mk (some 4) (.mv (.tmp 19)) none [1, 0, 1], AOper.mk (some 5) (.mv (.tmp 21)) none [3, 4, 0, 1, 2, 3, 4]]
def l74r3 : List AOper :=
  [AOper.mk (some 23) (.mv (.tmp 0)) none [], AOper.mk (some 24) (.mv (.tmp 1)) none [], AOper.mk (some 25) (.call 92 [.tmp 23, .tmp 24]) none [0, 1], AOper.mk (some 22) (.mv (.tmp 25)) none [2], AOper.mk (some 26) (.extract (.tmp 22) 0) none [3], AOper.mk (some 27) (.extract (.tmp 22) 1) none [3], AOper.mk (some 8) (.mv (.tmp 26)) none [4, 2, 0, 1, 2, 3, 4], AOper.mk (some 9) (.mv (.tmp 27)) none [5, 6, 0, 1, 2, 3, 4, 5, 6]]
def l74r4 : List AOper :=
  [AOper.mk (some 28) (.mv (.tmp 8)) none [], AOper.mk (some 29) (.mv (.tmp 9)) none [], AOper.mk (some 4) (.mv (.tmp 28)) none [0, 0], AOper.mk (some 5) (.mv (.tmp 29)) none [1, 2, 0, 1, 2]]
def l74 : AFn :=
  (AFn.mk 30 2 (ACode.seq (ACode.reg l74r0) (ACode.seq (ACode.cond (.const (.bool false)) (ACode.seq (ACode.reg l74r1) (ACode.seq (ACode.reg l74r2) ACode.ret)) ACode.skip) (ACode.seq (ACode.reg l74r3) (ACode.seq (ACode.reg l74r4) ACode.ret)))) [ARes.tmp 4, ARes.tmp 5])
theorem l74_eq : lowFn Try.prog 74 = some l74 := by kernel_rfl
def l85r0 : List AOper :=
  [AOper.mk (some 2) (.box (.tmp 0)) none [], AOper.mk (some 4) (.mv (.const (.int .i64 0))) none []]
def l85r1 : List AOper :=
  [AOper.mk (some 7) (.fld 0 (.tmp 2)) none [], AOper.mk (some 8) (.load false 1 (.tmp 7)) none [0], AOper.mk (some 5) (.mv (.tmp 8)) none [1, 0, 1]]
def l85r2 : List AOper :=
  [AOper.mk (some 6) (.mv (.const (.int .i64 0))) none []]
def l85r3 : List AOper :=
  [AOper.mk (some 9) (.mv (.tmp 6)) none [], AOper.mk (some 10) (.mv (.tmp 1)) none [], AOper.mk (some 11) (.len (.tmp 10)) none [1], AOper.mk (some 12) (.bin .lss (.tmp 9) (.tmp 11)) none [0, 2]]
def l85r4a : List AOper :=
  [AOper.mk (some 15) (.mv (.tmp 5)) none [], AOper.mk (some 16) (.mv (.tmp 1)) none [], AOper.mk (some 17) (.mv (.tmp 6)) none [], AOper.mk (some 18) (.idxA 1 (.tmp 16) (.tmp 17)) none [1, 2], AOper.mk (some 19) (.load false 1 (.tmp 18)) none [3], AOper.mk (some 20) (.fld 2 (.tmp 2)) none [], AOper.mk (some 21) (.load false 1 (.tmp 20)) none [5], AOper.mk (some 22) (.mv (.tmp 6)) none [], AOper.mk (some 23) (.idxA 1 (.tmp 21) (.tmp 22)) none [6, 7], AOper.mk (some 24) (.load false 1 (.tmp 23)) none [8], AOper.mk (some 25) (.bin .mul (.tmp 19) (.tmp 24)) none [4, 9]]
def l85r4b : List AOper :=
  [AOper.mk (some 26) (.bin .add (.tmp 15) (.tmp 25)) none [0, 10], AOper.mk (some 5) (.mv (.tmp 26)) none [11, 0, 1, 2, 3, 4, 5, 6, 7, 8, 9, 10, 11]]
def l85r4 : List AOper := l85r4a ++ l85r4b
def l85r5 : List AOper :=
  [AOper.mk (some 13) (.mv (.tmp 6)) none [], AOper.mk (some 14) (.bin .add (.tmp 13) (.const (.int .i64 1))) none [0], AOper.mk (some 6) (.mv (.tmp 14)) none [1, 0, 1]]
def l85r6 : List AOper :=
  [AOper.mk (some 27) (.mv (.tmp 5)) none [], AOper.mk (some 4) (.mv (.tmp 27)) none [0, 0]]
def l85 : AFn :=
  (AFn.mk 28 2 (ACode.seq (ACode.reg l85r0) (ACode.seq (ACode.reg l85r1) (ACode.seq (ACode.seq (ACode.reg l85r2) (ACode.block 0 (ACode.loop (ACode.seq (ACode.seq (ACode.reg l85r3) (ACode.cond (.tmp 12) ACode.skip (ACode.exit 0))) (ACode.seq (ACode.block 1 (ACode.draw l85r4)) (ACode.reg l85r5)))))) (ACode.seq (ACode.reg l85r6) ACode.ret)))) [ARes.tmp 4])
theorem l85_eq : lowFn Try.prog 85 = some l85 := by kernel_rfl
def l86r0 : List AOper :=
  [AOper.mk (some 4) (.mv (.const (.slice none 0 0))) none []]
def l86r1 : List AOper :=
  [AOper.mk (some 7) (.mv (.tmp 0)) none [], AOper.mk (some 8) (.len (.tmp 7)) none [0], AOper.mk (some 9) (.mkslice 1 [.int .i64 0] (.tmp 8) (.tmp 8)) none [1, 1], AOper.mk (some 5) (.mv (.tmp 9)) none [2, 0, 1, 2]]
def l86r2 : List AOper :=
  [AOper.mk (some 10) (.mv (.tmp 0)) none [], AOper.mk (some 11) (.len (.tmp 10)) none [0], AOper.mk (some 12) (.bin .sub (.tmp 11) (.const (.int .i64 1))) none [1], AOper.mk (some 6) (.mv (.tmp 12)) none [2, 0, 1, 2]]
def l86r3 : List AOper :=
  [AOper.mk (some 13) (.mv (.tmp 6)) none [], AOper.mk (some 14) (.bin .geq (.tmp 13) (.const (.int .i64 0))) none [0]]
def l86r4 : List AOper :=
  [AOper.mk (some 17) (.mv (.tmp 5)) none [], AOper.mk (some 18) (.mv (.tmp 6)) none [], AOper.mk (some 19) (.mv (.tmp 1)) none [], AOper.mk (some 20) (.mv (.tmp 0)) none [], AOper.mk (some 21) (.mv (.tmp 6)) none [], AOper.mk (some 22) (.idxA 1 (.tmp 20) (.tmp 21)) none [3, 4], AOper.mk (some 23) (.load false 1 (.tmp 22)) none [5], AOper.mk (some 24) (.bin .rem (.tmp 19) (.tmp 23)) none [2, 6], AOper.mk (some 25) (.idxA 1 (.tmp 17) (.tmp 18)) none [0, 1, 0, 1, 2, 3, 4, 5, 6, 7], AOper.mk none (.store 1 (.tmp 25) (.tmp 24)) none [8, 7, 0, 1, 2, 3, 4, 5, 6, 7]]
def l86r5 : List AOper :=
  [AOper.mk (some 26) (.mv (.tmp 1)) none [], AOper.mk (some 27) (.mv (.tmp 0)) none [], AOper.mk (some 28) (.mv (.tmp 6)) none [], AOper.mk (some 29) (.idxA 1 (.tmp 27) (.tmp 28)) none [1, 2], AOper.mk (some 30) (.load false 1 (.tmp 29)) none [3], AOper.mk (some 31) (.bin .quo (.tmp 26) (.tmp 30)) none [0, 4], AOper.mk (some 1) (.mv (.tmp 31)) none [5, 0, 1, 2, 3, 4, 5]]
def l86r6 : List AOper :=
  [AOper.mk (some 15) (.mv (.tmp 6)) none [], AOper.mk (some 16) (.bin .sub (.tmp 15) (.const (.int .i64 1))) none [0], AOper.mk (some 6) (.mv (.tmp 16)) none [1, 0, 1]]
def l86r7 : List AOper :=
  [AOper.mk (some 32) (.mv (.tmp 5)) none [], AOper.mk (some 4) (.mv (.tmp 32)) none [0, 0]]
def l86 : AFn :=
  (AFn.mk 33 2 (ACode.seq (ACode.reg l86r0) (ACode.seq (ACode.reg l86r1) (ACode.seq (ACode.seq (ACode.reg l86r2) (ACode.block 0 (ACode.loop (ACode.seq (ACode.seq (ACode.reg l86r3) (ACode.cond (.tmp 14) ACode.skip (ACode.exit 0))) (ACode.seq (ACode.block 1 (ACode.seq (ACode.reg l86r4) (ACode.reg l86r5))) (ACode.reg l86r6)))))) (ACode.seq (ACode.reg l86r7) ACode.ret)))) [ARes.tmp 4])
theorem l86_eq : lowFn Try.prog 86 = some l86 := by kernel_rfl
def l87r0 : List AOper :=
  [AOper.mk (some 4) (.mv (.const (.bool false))) none []]
def l87r1 : List AOper :=
  [AOper.mk (some 5) (.mv (.tmp 1)) none [], AOper.mk (some 6) (.un .neg (.tmp 5)) none [0], AOper.mk (some 7) (.mv (.tmp 0)) none [], AOper.mk (some 8) (.bin .leq (.tmp 6) (.tmp 7)) none [1, 2], AOper.mk (some 9) (.mv (.tmp 8)) none [3], AOper.mk (some 10) (.mv (.tmp 0)) (some (9, true)) [4], AOper.mk (some 11) (.mv (.tmp 1)) (some (9, true)) [4], AOper.mk (some 12) (.bin .leq (.tmp 10) (.tmp 11)) (some (9, true)) [5, 6, 4], AOper.mk (some 13) (.pick (.tmp 9) (.tmp 12) (.const (.bool false))) none [4, 7], AOper.mk (some 4) (.mv (.tmp 13)) none [8, 4, 0, 1, 2, 3, 4, 5, 6, 7, 8]]
def l87 : AFn :=
  (AFn.mk 14 2 (ACode.seq (ACode.reg l87r0) (ACode.seq (ACode.reg l87r1) ACode.ret)) [ARes.tmp 4])
theorem l87_eq : lowFn Try.prog 87 = some l87 := by kernel_rfl
def l89r0 : List AOper :=
  [AOper.mk (some 2) (.box (.tmp 0)) none [], AOper.mk (some 4) (.mv (.const (.int .i64 0))) none []]
def l89r1 : List AOper :=
  [AOper.mk (some 5) (.mv (.const (.int .i64 0))) none []]
def l89r2 : List AOper :=
  [AOper.mk (some 8) (.mv (.tmp 1)) none [], AOper.mk (some 9) (.len (.tmp 8)) none [0], AOper.mk (some 10) (.mv (.const (.int .i64 0))) none []]
def l89r3 : List AOper :=
  [AOper.mk (some 11) (.bin .lss (.tmp 10) (.tmp 9)) none []]
def l89r4 : List AOper :=
  [AOper.mk (some 12) (.mv (.tmp 10)) none [], AOper.mk (some 13) (.idxA 1 (.tmp 8) (.tmp 10)) none [], AOper.mk (some 14) (.load false 1 (.tmp 13)) none [1], AOper.mk (some 6) (.mv (.tmp 12)) none [0, 0, 1, 2], AOper.mk (some 7) (.mv (.tmp 14)) none [2, 3, 0, 1, 2, 3]]
def l89r5 : List AOper :=
  [AOper.mk (some 15) (.mv (.tmp 5)) none [], AOper.mk (some 16) (.mv (.tmp 6)) none [], AOper.mk (some 17) (.idxP 1 4 (.tmp 2) (.tmp 16)) none [1], AOper.mk (some 18) (.load false 1 (.tmp 17)) none [2], AOper.mk (some 19) (.mv (.tmp 7)) none [], AOper.mk (some 20) (.bin .mul (.tmp 18) (.tmp 19)) none [3, 4], AOper.mk (some 21) (.bin .add (.tmp 15) (.tmp 20)) none [0, 5], AOper.mk (some 5) (.mv (.tmp 21)) none [6, 0, 1, 2, 3, 4, 5, 6]]
def l89r6 : List AOper :=
  [AOper.mk (some 22) (.bin .add (.tmp 10) (.const (.int .i64 1))) none [], AOper.mk (some 10) (.mv (.tmp 22)) none [0]]
def l89r7 : List AOper :=
  [AOper.mk (some 23) (.mv (.tmp 5)) none [], AOper.mk (some 4) (.mv (.tmp 23)) none [0, 0]]
def l89 : AFn :=
  (AFn.mk 24 2 (ACode.seq (ACode.reg l89r0) (ACode.seq (ACode.reg l89r1) (ACode.seq (ACode.seq (ACode.reg l89r2) (ACode.block 0 (ACode.loop (ACode.seq (ACode.reg l89r3) (ACode.seq (ACode.cond (.tmp 11) ACode.skip (ACode.exit 0)) (ACode.seq (ACode.block 1 (ACode.seq (ACode.reg l89r4) (ACode.reg l89r5))) (ACode.reg l89r6))))))) (ACode.seq (ACode.reg l89r7) ACode.ret)))) [ARes.tmp 4])
theorem l89_eq : lowFn Try.prog 89 = some l89 := by kernel_rfl
def l92r0 : List AOper :=
  [AOper.mk (some 4) (.mv (.const (.int .u64 0))) none [], AOper.mk (some 5) (.mv (.const (.int .u64 0))) none [0]]
def l92r1 : List AOper :=
  [AOper.mk (some 14) (.mv (.tmp 0)) none [], AOper.mk (some 15) (.bin .and (.tmp 14) (.const (.int .u64 4294967295))) none [0], AOper.mk (some 6) (.mv (.tmp 15)) none [1, 0, 1]]
def l92r2 : List AOper :=
  [AOper.mk (some 16) (.mv (.tmp 0)) none [], AOper.mk (some 17) (.bin .shr (.tmp 16) (.const (.int .u64 32))) none [0], AOper.mk (some 7) (.mv (.tmp 17)) none [1, 0, 1]]
def l92r3 : List AOper :=
  [AOper.mk (some 18) (.mv (.tmp 1)) none [], AOper.mk (some 19) (.bin .and (.tmp 18) (.const (.int .u64 4294967295))) none [0], AOper.mk (some 8) (.mv (.tmp 19)) none [1, 0, 1]]
def l92r4 : List AOper :=
  [AOper.mk (some 20) (.mv (.tmp 1)) none [], AOper.mk (some 21) (.bin .shr (.tmp 20) (.const (.int .u64 32))) none [0], AOper.mk (some 9) (.mv (.tmp 21)) none [1, 0, 1]]
def l92r5 : List AOper :=
  [AOper.mk (some 22) (.mv (.tmp 6)) none [], AOper.mk (some 23) (.mv (.tmp 8)) none [], AOper.mk (some 24) (.bin .mul (.tmp 22) (.tmp 23)) none [0, 1], AOper.mk (some 10) (.mv (.tmp 24)) none [2, 0, 1, 2]]
def l92r6 : List AOper :=
  [AOper.mk (some 25) (.mv (.tmp 7)) none [], AOper.mk (some 26) (.mv (.tmp 8)) none [], AOper.mk (some 27) (.bin .mul (.tmp 25) (.tmp 26)) none [0, 1], AOper.mk (some 28) (.mv (.tmp 10)) none [], AOper.mk (some 29) (.bin .shr (.tmp 28) (.const (.int .u64 32))) none [3], AOper.mk (some 30) (.bin .add (.tmp 27) (.tmp 29)) none [2, 4], AOper.mk (some 11) (.mv (.tmp 30)) none [5, 0, 1, 2, 3, 4, 5]]
def l92r7 : List AOper :=
  [AOper.mk (some 31) (.mv (.tmp 11)) none [], AOper.mk (some 32) (.bin .and (.tmp 31) (.const (.int .u64 4294967295))) none [0], AOper.mk (some 12) (.mv (.tmp 32)) none [1, 0, 1]]
def l92r8 : List AOper :=
  [AOper.mk (some 33) (.mv (.tmp 11)) none [], AOper.mk (some 34) (.bin .shr (.tmp 33) (.const (.int .u64 32))) none [0], AOper.mk (some 13) (.mv (.tmp 34)) none [1, 0, 1]]
def l92r9 : List AOper :=
  [AOper.mk (some 35) (.mv (.tmp 12)) none [], AOper.mk (some 36) (.mv (.tmp 6)) none [], AOper.mk (some 37) (.mv (.tmp 9)) none [], AOper.mk (some 38) (.bin .mul (.tmp 36) (.tmp 37)) none [1, 2], AOper.mk (some 39) (.bin .add (.tmp 35) (.tmp 38)) none [0, 3], AOper.mk (some 12) (.mv (.tmp 39)) none [4, 0, 1, 2, 3, 4]]
def l92r10 : List AOper :=
  [AOper.mk (some 40) (.mv (.tmp 7)) none [], AOper.mk (some 41) (.mv (.tmp 9)) none [], AOper.mk (some 42) (.bin .mul (.tmp 40) (.tmp 41)) none [0, 1], AOper.mk (some 43) (.mv (.tmp 13)) none [], AOper.mk (some 44) (.bin .add (.tmp 42) (.tmp 43)) none [2, 3], AOper.mk (some 45) (.mv (.tmp 12)) none [], AOper.mk (some 46) (.bin .shr (.tmp 45) (.const (.int .u64 32))) none [5], AOper.mk (some 47) (.bin .add (.tmp 44) (.tmp 46)) none [4, 6], AOper.mk (some 4) (.mv (.tmp 47)) none [7, 0, 1, 2, 3, 4, 5, 6, 7]]
def l92r11 : List AOper :=
  [AOper.mk (some 48) (.mv (.tmp 0)) none [], AOper.mk (some 49) (.mv (.tmp 1)) none [], AOper.mk (some 50) (.bin .mul (.tmp 48) (.tmp 49)) none [0, 1], AOper.mk (some 5) (.mv (.tmp 50)) none [2, 0, 1, 2]]
def l92 : AFn :=
  (AFn.mk 51 2 (ACode.seq (ACode.reg l92r0) (ACode.seq (ACode.reg l92r1) (ACode.seq (ACode.reg l92r2) (ACode.seq (ACode.reg l92r3) (ACode.seq (ACode.reg l92r4) (ACode.seq (ACode.reg l92r5) (ACode.seq (ACode.reg l92r6) (ACode.seq (ACode.reg l92r7) (ACode.seq (ACode.reg l92r8) (ACode.seq (ACode.reg l92r9) (ACode.seq (ACode.reg l92r10) (ACode.seq (ACode.reg l92r11) ACode.ret)))))))))))) [ARes.tmp 4, ARes.tmp 5])
theorem l92_eq : lowFn Try.prog 92 = some l92 := by kernel_rfl
end Go.Proofs.Ytbhkcmiphmaefaa
