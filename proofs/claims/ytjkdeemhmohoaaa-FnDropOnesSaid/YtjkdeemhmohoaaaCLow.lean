import Derived.Test.YtjkdeemhmohoaaaCW3
import Derived.Test.YtjkdeemhmohoaaaProg
import Derived.KernelRfl
set_option maxRecDepth 100000
namespace Go.Proofs.Ytjkdeemhmohoaaa
open Vw Go
def l3r0 : List AOper :=
  [AOper.mk (some 2) (.mv (.const (.bool false))) none []]
def l3r1 : List AOper :=
  [AOper.mk (some 5) (.mv (.tmp 0)) none [], AOper.mk (some 6) (.len (.tmp 5)) none [0], AOper.mk (some 7) (.bin .gtr (.tmp 6) (.const (.int .i64 1048576))) none [1]]
def l3r2 : List AOper :=
  [AOper.mk (some 2) (.mv (.const (.bool true))) none []]
def l3r3 : List AOper :=
  [AOper.mk (some 8) (.mv (.tmp 0)) none [], AOper.mk (some 9) (.call 5 [.tmp 8]) none [0], AOper.mk (some 3) (.alloc [.int .i64 0, .slice none 0 0, .slice none 0 0]) none [], AOper.mk none (.store 3 (.tmp 3) (.tmp 9)) none [2, 1, 1, 0, 1, 2]]
def l3r4 : List AOper :=
  [AOper.mk (some 10) (.load true 3 (.tmp 3)) none [], AOper.mk (some 11) (.call 6 [.tmp 10]) none [0], AOper.mk (some 4) (.alloc [.int .i64 0, .slice none 0 0, .slice none 0 0]) none [], AOper.mk none (.store 3 (.tmp 4) (.tmp 11)) none [2, 1, 1, 0, 1, 2]]
def l3r5a : List AOper :=
  [AOper.mk (some 12) (.load true 3 (.tmp 4)) none [], AOper.mk (some 13) (.load true 3 (.tmp 3)) none [], AOper.mk (some 14) (.call 8 [.tmp 13]) none [1]]
def l3r5b : List AOper :=
  [AOper.mk (some 15) (.call 7 [.tmp 12, .tmp 14]) none [0, 2, 2], AOper.mk (some 16) (.un .not (.tmp 15)) none [3], AOper.mk (some 17) (.mv (.tmp 16)) none [4, 3], AOper.mk (some 18) (.load true 3 (.tmp 3)) (some (17, false)) [5], AOper.mk (some 19) (.call 9 [.tmp 18]) (some (17, false)) [6, 5, 5], AOper.mk (some 20) (.un .not (.tmp 19)) (some (17, false)) [7, 5], AOper.mk (some 21) (.pick (.tmp 17) (.const (.bool true)) (.tmp 20)) none [5, 8]]
def l3r5 : List AOper := l3r5a ++ l3r5b
def l3r6a : List AOper :=
  [AOper.mk (some 22) (.load true 3 (.tmp 4)) none [], AOper.mk (some 23) (.load true 3 (.tmp 3)) none [], AOper.mk (some 24) (.call 8 [.tmp 23]) none [1]]
def l3r6b : List AOper :=
  [AOper.mk (some 25) (.call 7 [.tmp 22, .tmp 24]) none [0, 2, 2], AOper.mk (some 2) (.mv (.tmp 25)) none [3, 3, 0, 1, 2, 3]]
def l3r6 : List AOper := l3r6a ++ l3r6b
def l3r7a : List AOper :=
  [AOper.mk (some 26) (.load true 3 (.tmp 4)) none [], AOper.mk (some 27) (.call 11 [.tmp 26]) none [0], AOper.mk (some 28) (.load true 3 (.tmp 3)) none [], AOper.mk (some 29) (.call 11 [.tmp 28]) none [2, 1], AOper.mk (some 30) (.call 10 [.tmp 27, .tmp 29]) none [1, 3, 3], AOper.mk (some 31) (.mv (.tmp 30)) none [4, 4], AOper.mk (some 32) (.fld 1 (.tmp 4)) (some (31, true)) [5], AOper.mk (some 33) (.load false 1 (.tmp 32)) (some (31, true)) [6, 5], AOper.mk (some 34) (.call 12 [.tmp 33, .const (.int .i64 1)]) (some (31, true)) [7, 5, 5], AOper.mk (some 35) (.un .not (.tmp 34)) (some (31, true)) [8, 5], AOper.mk (some 36) (.pick (.tmp 31) (.tmp 35) (.const (.bool false))) none [5, 9], AOper.mk (some 37) (.mv (.tmp 36)) none [10, 8], AOper.mk (some 38) (.load true 3 (.tmp 4)) (some (37, true)) [11], AOper.mk (some 39) (.call 6 [.tmp 38]) (some (37, true)) [12, 11, 11], AOper.mk (some 40) (.load true 3 (.tmp 4)) (some (37, true)) [11]]
def l3r7b : List AOper :=
  [AOper.mk (some 41) (.call 7 [.tmp 39, .tmp 40]) (some (37, true)) [13, 14, 13, 11], AOper.mk (some 42) (.pick (.tmp 37) (.tmp 41) (.const (.bool false))) none [11, 15], AOper.mk (some 2) (.mv (.tmp 42)) none [16, 15, 0, 1, 2, 3, 4, 5, 6, 7, 8, 9, 10, 11, 12, 13, 14, 15, 16]]
def l3r7 : List AOper := l3r7a ++ l3r7b
def l3 : AFn :=
  (AFn.mk 43 1 (ACode.seq (ACode.reg l3r0) (ACode.seq (ACode.seq (ACode.reg l3r1) (ACode.cond (.tmp 7) (ACode.seq (ACode.reg l3r2) ACode.ret) ACode.skip)) (ACode.seq (ACode.reg l3r3) (ACode.seq (ACode.reg l3r4) (ACode.seq (ACode.seq (ACode.draw l3r5) (ACode.cond (.tmp 21) (ACode.seq (ACode.draw l3r6) ACode.ret) ACode.skip)) (ACode.seq (ACode.draw l3r7) ACode.ret)))))) [ARes.tmp 2])
theorem l3_eq : lowFn Try.prog 3 = some l3 := by kernel_rfl
def l5r0 : List AOper :=
  [AOper.mk (some 2) (.alloc [.int .i64 0, .slice none 0 0, .slice none 0 0]) none []]
def l5r1 : List AOper :=
  [AOper.mk (some 3) (.mv (.tmp 0)) none [], AOper.mk (some 4) (.call 17 [.tmp 3]) none [0], AOper.mk (some 5) (.call 16 [.tmp 4]) none [1, 1], AOper.mk none (.store 3 (.tmp 2) (.tmp 5)) none [2, 2, 0, 1, 2]]
def l5 : AFn :=
  (AFn.mk 6 1 (ACode.seq (ACode.reg l5r0) (ACode.seq (ACode.reg l5r1) ACode.ret)) [ARes.cell 2 true 3])
theorem l5_eq : lowFn Try.prog 5 = some l5 := by kernel_rfl
def l6r0 : List AOper :=
  [AOper.mk (some 1) (.box (.tmp 0)) none [], AOper.mk (some 2) (.alloc [.int .i64 0, .slice none 0 0, .slice none 0 0]) none []]
def l6r1 : List AOper :=
  [AOper.mk (some 4) (.load true 3 (.tmp 1)) none [], AOper.mk (some 5) (.call 9 [.tmp 4]) none [0], AOper.mk (some 6) (.un .not (.tmp 5)) none [1]]
def l6r2 : List AOper :=
  [AOper.mk (some 7) (.build [.int .i64 0, .slice none 0 0, .slice none 0 0] []) none [], AOper.mk none (.store 3 (.tmp 2) (.tmp 7)) none [0, 0]]
def l6r3 : List AOper :=
  [AOper.mk (some 8) (.load true 3 (.tmp 1)) none [], AOper.mk (some 9) (.call 18 [.tmp 8]) none [0], AOper.mk (some 3) (.alloc [.int .i64 0, .slice none 0 0, .slice none 0 0, .int .i64 0, .int .i64 0, .int .i64 0, .int .i64 0, .slice none 0 0]) none [], AOper.mk none (.store 8 (.tmp 3) (.tmp 9)) none [2, 1, 1, 0, 1, 2]]
def l6r4 : List AOper :=
  [AOper.mk (some 10) (.fld 7 (.tmp 3)) none [], AOper.mk (some 11) (.load false 1 (.tmp 10)) none [0], AOper.mk (some 12) (.call 19 [.tmp 11, .func 20]) none [1], AOper.mk (some 13) (.fld 7 (.tmp 3)) none [0, 1, 2], AOper.mk none (.store 1 (.tmp 13) (.tmp 12)) none [3, 2, 2, 0, 1, 2]]
def l6r5 : List AOper :=
  [AOper.mk (some 14) (.load true 8 (.tmp 3)) none [], AOper.mk (some 15) (.call 21 [.tmp 14]) none [0], AOper.mk none (.store 3 (.tmp 2) (.tmp 15)) none [1, 1, 0, 1]]
def l6 : AFn :=
  (AFn.mk 16 1 (ACode.seq (ACode.reg l6r0) (ACode.seq (ACode.seq (ACode.reg l6r1) (ACode.cond (.tmp 6) (ACode.seq (ACode.reg l6r2) ACode.ret) ACode.skip)) (ACode.seq (ACode.reg l6r3) (ACode.seq (ACode.reg l6r4) (ACode.seq (ACode.reg l6r5) ACode.ret))))) [ARes.cell 2 true 3])
theorem l6_eq : lowFn Try.prog 6 = some l6 := by kernel_rfl
def l7r0 : List AOper :=
  [AOper.mk (some 2) (.box (.tmp 0)) none [], AOper.mk (some 3) (.box (.tmp 1)) none [], AOper.mk (some 4) (.mv (.const (.bool false))) none []]
def l7r1 : List AOper :=
  [AOper.mk (some 5) (.fld 0 (.tmp 2)) none [], AOper.mk (some 6) (.load false 1 (.tmp 5)) none [0], AOper.mk (some 7) (.fld 0 (.tmp 3)) none [], AOper.mk (some 8) (.load false 1 (.tmp 7)) none [2], AOper.mk (some 9) (.bin .eql (.tmp 6) (.tmp 8)) none [1, 3], AOper.mk (some 10) (.mv (.tmp 9)) none [4], AOper.mk (some 11) (.fld 1 (.tmp 2)) (some (10, true)) [5], AOper.mk (some 12) (.load false 1 (.tmp 11)) (some (10, true)) [6, 5], AOper.mk (some 13) (.fld 1 (.tmp 3)) (some (10, true)) [5], AOper.mk (some 14) (.load false 1 (.tmp 13)) (some (10, true)) [8, 5], AOper.mk (some 15) (.call 10 [.tmp 12, .tmp 14]) (some (10, true)) [7, 9, 5, 5], AOper.mk (some 16) (.pick (.tmp 10) (.tmp 15) (.const (.bool false))) none [5, 10], AOper.mk (some 17) (.mv (.tmp 16)) none [11, 10], AOper.mk (some 18) (.fld 2 (.tmp 2)) (some (17, true)) [12], AOper.mk (some 19) (.load false 1 (.tmp 18)) (some (17, true)) [13, 12], AOper.mk (some 20) (.fld 2 (.tmp 3)) (some (17, true)) [12], AOper.mk (some 21) (.load false 1 (.tmp 20)) (some (17, true)) [15, 12], AOper.mk (some 22) (.call 10 [.tmp 19, .tmp 21]) (some (17, true)) [14, 16, 12, 12], AOper.mk (some 23) (.pick (.tmp 17) (.tmp 22) (.const (.bool false))) none [12, 17], AOper.mk (some 4) (.mv (.tmp 23)) none [18, 17, 0, 1, 2, 3, 4, 5, 6, 7, 8, 9, 10, 11, 12, 13, 14, 15, 16, 17, 18]]
def l7 : AFn :=
  (AFn.mk 24 2 (ACode.seq (ACode.reg l7r0) (ACode.seq (ACode.reg l7r1) ACode.ret)) [ARes.tmp 4])
theorem l7_eq : lowFn Try.prog 7 = some l7 := by kernel_rfl
def l8r0 : List AOper :=
  [AOper.mk (some 1) (.box (.tmp 0)) none [], AOper.mk (some 2) (.alloc [.int .i64 0, .slice none 0 0, .slice none 0 0]) none []]
def l8r1 : List AOper :=
  [AOper.mk (some 5) (.load true 3 (.tmp 1)) none [], AOper.mk (some 6) (.call 22 [.tmp 5]) none [0], AOper.mk (some 7) (.un .not (.tmp 6)) none [1]]
def l8r2 : List AOper :=
  [AOper.mk (some 8) (.build [.int .i64 0, .slice none 0 0, .slice none 0 0] []) none [], AOper.mk none (.store 3 (.tmp 2) (.tmp 8)) none [0, 0]]
def l8r3 : List AOper :=
  [AOper.mk (some 9) (.fld 0 (.tmp 1)) none [], AOper.mk (some 10) (.load false 1 (.tmp 9)) none [0], AOper.mk (some 11) (.bslice 1 [.int .i64 0] [] 0) none [], AOper.mk (some 12) (.bslice 1 [.int .i64 0] [] 0) none [], AOper.mk (some 13) (.build [.int .i64 0, .slice none 0 0, .slice none 0 0] [(0, 1, .tmp 10), (1, 1, .tmp 11), (2, 1, .tmp 12)]) none [1, 2, 3], AOper.mk (some 3) (.alloc [.int .i64 0, .slice none 0 0, .slice none 0 0]) none [], AOper.mk none (.store 3 (.tmp 3) (.tmp 13)) none [5, 4, 0, 1, 2, 3, 4, 5]]
def l8r4 : List AOper :=
  [AOper.mk (some 4) (.mv (.const (.int .i64 0))) none []]
def l8r5 : List AOper :=
  [AOper.mk (some 14) (.mv (.tmp 4)) none [], AOper.mk (some 15) (.fld 1 (.tmp 1)) none [], AOper.mk (some 16) (.load false 1 (.tmp 15)) none [1], AOper.mk (some 17) (.len (.tmp 16)) none [2], AOper.mk (some 18) (.bin .lss (.tmp 14) (.tmp 17)) none [0, 3]]
def l8r6 : List AOper :=
  [AOper.mk (some 21) (.fld 1 (.tmp 1)) none [], AOper.mk (some 22) (.load false 1 (.tmp 21)) none [0], AOper.mk (some 23) (.mv (.tmp 4)) none [], AOper.mk (some 24) (.idxA 1 (.tmp 22) (.tmp 23)) none [1, 2], AOper.mk (some 25) (.load false 1 (.tmp 24)) none [3], AOper.mk (some 26) (.bin .neq (.tmp 25) (.const (.int .i64 1))) none [4]]
def l8r7a : List AOper :=
  [AOper.mk (some 27) (.fld 1 (.tmp 3)) none [], AOper.mk (some 28) (.load false 1 (.tmp 27)) none [0], AOper.mk (some 29) (.fld 1 (.tmp 1)) none [], AOper.mk (some 30) (.load false 1 (.tmp 29)) none [2], AOper.mk (some 31) (.mv (.tmp 4)) none [], AOper.mk (some 32) (.idxA 1 (.tmp 30) (.tmp 31)) none [3, 4], AOper.mk (some 33) (.load false 1 (.tmp 32)) none [5], AOper.mk (some 34) (.bslice 1 [.int .i64 0] [(0, .tmp 33)] 1) none [6]]
def l8r7b : List AOper :=
  [AOper.mk (some 35) (.append 1 (.tmp 28) (.tmp 34)) none [1, 7], AOper.mk (some 36) (.fld 1 (.tmp 3)) none [0, 1, 2, 3, 4, 5, 6, 7, 8], AOper.mk none (.store 1 (.tmp 36) (.tmp 35)) none [9, 8, 8, 0, 1, 2, 3, 4, 5, 6, 7, 8]]
def l8r7 : List AOper := l8r7a ++ l8r7b
def l8r8a : List AOper :=
  [AOper.mk (some 37) (.fld 2 (.tmp 3)) none [], AOper.mk (some 38) (.load false 1 (.tmp 37)) none [0], AOper.mk (some 39) (.fld 2 (.tmp 1)) none [], AOper.mk (some 40) (.load false 1 (.tmp 39)) none [2], AOper.mk (some 41) (.mv (.tmp 4)) none [], AOper.mk (some 42) (.idxA 1 (.tmp 40) (.tmp 41)) none [3, 4], AOper.mk (some 43) (.load false 1 (.tmp 42)) none [5], AOper.mk (some 44) (.bslice 1 [.int .i64 0] [(0, .tmp 43)] 1) none [6]]
def l8r8b : List AOper :=
  [AOper.mk (some 45) (.append 1 (.tmp 38) (.tmp 44)) none [1, 7], AOper.mk (some 46) (.fld 2 (.tmp 3)) none [0, 1, 2, 3, 4, 5, 6, 7, 8], AOper.mk none (.store 1 (.tmp 46) (.tmp 45)) none [9, 8, 8, 0, 1, 2, 3, 4, 5, 6, 7, 8]]
def l8r8 : List AOper := l8r8a ++ l8r8b
def l8r9 : List AOper :=
  [AOper.mk (some 19) (.mv (.tmp 4)) none [], AOper.mk (some 20) (.bin .add (.tmp 19) (.const (.int .i64 1))) none [0], AOper.mk (some 4) (.mv (.tmp 20)) none [1, 0, 1]]
def l8r10 : List AOper :=
  [AOper.mk (some 47) (.load true 3 (.tmp 3)) none [], AOper.mk none (.store 3 (.tmp 2) (.tmp 47)) none [0, 0]]
def l8 : AFn :=
  (AFn.mk 48 1 (ACode.seq (ACode.reg l8r0) (ACode.seq (ACode.seq (ACode.reg l8r1) (ACode.cond (.tmp 7) (ACode.seq (ACode.reg l8r2) ACode.ret) ACode.skip)) (ACode.seq (ACode.reg l8r3) (ACode.seq (ACode.seq (ACode.reg l8r4) (ACode.block 0 (ACode.loop (ACode.seq (ACode.seq (ACode.reg l8r5) (ACode.cond (.tmp 18) ACode.skip (ACode.exit 0))) (ACode.seq (ACode.block 1 (ACode.seq (ACode.reg l8r6) (ACode.cond (.tmp 26) (ACode.seq (ACode.draw l8r7) (ACode.draw l8r8)) ACode.skip))) (ACode.reg l8r9)))))) (ACode.seq (ACode.reg l8r10) ACode.ret))))) [ARes.cell 2 true 3])
theorem l8_eq : lowFn Try.prog 8 = some l8 := by kernel_rfl
def l9r0 : List AOper :=
  [AOper.mk (some 1) (.box (.tmp 0)) none [], AOper.mk (some 2) (.mv (.const (.bool false))) none []]
def l9r1 : List AOper :=
  [AOper.mk (some 5) (.fld 1 (.tmp 1)) none [], AOper.mk (some 6) (.load false 1 (.tmp 5)) none [0], AOper.mk (some 7) (.call 23 [.tmp 6]) none [1], AOper.mk (some 8) (.un .not (.tmp 7)) none [2], AOper.mk (some 9) (.mv (.tmp 8)) none [3, 2], AOper.mk (some 10) (.fld 2 (.tmp 1)) (some (9, false)) [4], AOper.mk (some 11) (.load false 1 (.tmp 10)) (some (9, false)) [5, 4], AOper.mk (some 12) (.fld 1 (.tmp 1)) (some (9, false)) [4], AOper.mk (some 13) (.load false 1 (.tmp 12)) (some (9, false)) [7, 4], AOper.mk (some 14) (.len (.tmp 13)) (some (9, false)) [8, 4], AOper.mk (some 15) (.call 24 [.tmp 11, .tmp 14]) (some (9, false)) [6, 9, 4, 4], AOper.mk (some 16) (.un .not (.tmp 15)) (some (9, false)) [10, 4], AOper.mk (some 17) (.pick (.tmp 9) (.const (.bool true)) (.tmp 16)) none [4, 11], AOper.mk (some 18) (.mv (.tmp 17)) none [12, 10], AOper.mk (some 19) (.fld 0 (.tmp 1)) (some (18, false)) [13], AOper.mk (some 20) (.load false 1 (.tmp 19)) (some (18, false)) [14, 13], AOper.mk (some 21) (.call 25 [.tmp 20, .const (.int .i64 60)]) (some (18, false)) [15, 13, 13], AOper.mk (some 22) (.un .not (.tmp 21)) (some (18, false)) [16, 13], AOper.mk (some 23) (.pick (.tmp 18) (.const (.bool true)) (.tmp 22)) none [13, 17]]
def l9r2 : List AOper :=
  [AOper.mk (some 2) (.mv (.const (.bool false))) none []]
def l9r3 : List AOper :=
  [AOper.mk (some 25) (.load true 3 (.tmp 1)) none [], AOper.mk (some 26) (.call 26 [.tmp 25]) none [0], AOper.mk (some 24) (.mv (.tmp 26)) none [1], AOper.mk (some 27) (.extract (.tmp 24) 0) none [2], AOper.mk (some 28) (.extract (.tmp 24) 1) none [2], AOper.mk (some 3) (.mv (.tmp 27)) none [3, 1, 0, 1, 2, 3], AOper.mk (some 4) (.mv (.tmp 28)) none [4, 5, 0, 1, 2, 3, 4, 5]]
def l9r4 : List AOper :=
  [AOper.mk (some 29) (.load true 3 (.tmp 1)) none [], AOper.mk (some 30) (.call 27 [.tmp 29]) none [0], AOper.mk (some 31) (.bin .eql (.tmp 30) (.const (.int .i64 0))) none [1], AOper.mk (some 32) (.mv (.tmp 31)) none [2, 1], AOper.mk (some 33) (.mv (.tmp 3)) (some (32, false)) [3], AOper.mk (some 34) (.bin .geq (.tmp 33) (.const (.int .i64 0))) (some (32, false)) [4, 3], AOper.mk (some 35) (.mv (.tmp 34)) (some (32, false)) [5, 3, 3], AOper.mk (some 36) (.mv (.tmp 4)) (some (35, true)) [6], AOper.mk (some 37) (.bin .lss (.tmp 36) (.const (.int .i64 60))) (some (35, true)) [7, 6], AOper.mk (some 38) (.pick (.tmp 35) (.tmp 37) (.const (.bool false))) (some (32, false)) [6, 8, 3], AOper.mk (some 39) (.pick (.tmp 32) (.const (.bool true)) (.tmp 38)) none [3, 9], AOper.mk (some 2) (.mv (.tmp 39)) none [10, 6, 0, 1, 2, 3, 4, 5, 6, 7, 8, 9, 10]]
def l9 : AFn :=
  (AFn.mk 40 1 (ACode.seq (ACode.reg l9r0) (ACode.seq (ACode.seq (ACode.reg l9r1) (ACode.cond (.tmp 23) (ACode.seq (ACode.reg l9r2) ACode.ret) ACode.skip)) (ACode.seq (ACode.reg l9r3) (ACode.seq (ACode.reg l9r4) ACode.ret)))) [ARes.tmp 2])
theorem l9_eq : lowFn Try.prog 9 = some l9 := by kernel_rfl
def l10r0 : List AOper :=
  [AOper.mk (some 4) (.mv (.const (.bool false))) none []]
def l10r1 : List AOper :=
  [AOper.mk (some 6) (.mv (.tmp 0)) none [], AOper.mk (some 7) (.len (.tmp 6)) none [0], AOper.mk (some 8) (.mv (.tmp 1)) none [], AOper.mk (some 9) (.len (.tmp 8)) none [2], AOper.mk (some 10) (.bin .neq (.tmp 7) (.tmp 9)) none [1, 3]]
def l10r2 : List AOper :=
  [AOper.mk (some 4) (.mv (.const (.bool false))) none []]
def l10r3 : List AOper :=
  [AOper.mk (some 5) (.mv (.const (.int .i64 0))) none []]
def l10r4 : List AOper :=
  [AOper.mk (some 11) (.mv (.tmp 5)) none [], AOper.mk (some 12) (.mv (.tmp 0)) none [], AOper.mk (some 13) (.len (.tmp 12)) none [1], AOper.mk (some 14) (.bin .lss (.tmp 11) (.tmp 13)) none [0, 2]]
def l10r5a : List AOper :=
  [AOper.mk (some 17) (.mv (.tmp 0)) none [], AOper.mk (some 18) (.mv (.tmp 5)) none [], AOper.mk (some 19) (.idxA 1 (.tmp 17) (.tmp 18)) none [0, 1], AOper.mk (some 20) (.load false 1 (.tmp 19)) none [2], AOper.mk (some 21) (.mv (.tmp 1)) none [], AOper.mk (some 22) (.mv (.tmp 5)) none [], AOper.mk (some 23) (.idxA 1 (.tmp 21) (.tmp 22)) none [4, 5], AOper.mk (some 24) (.load false 1 (.tmp 23)) none [6]]
def l10r5b : List AOper :=
  [AOper.mk (some 25) (.bin .neq (.tmp 20) (.tmp 24)) none [3, 7]]
def l10r5 : List AOper := l10r5a ++ l10r5b
def l10r6 : List AOper :=
  [AOper.mk (some 4) (.mv (.const (.bool false))) none []]
def l10r7 : List AOper :=
  [AOper.mk (some 15) (.mv (.tmp 5)) none [], AOper.mk (some 16) (.bin .add (.tmp 15) (.const (.int .i64 1))) none [0], AOper.mk (some 5) (.mv (.tmp 16)) none [1, 0, 1]]
def l10r8 : List AOper :=
  [AOper.mk (some 4) (.mv (.const (.bool true))) none []]
def l10 : AFn :=
  (AFn.mk 26 2 (ACode.seq (ACode.reg l10r0) (ACode.seq (ACode.seq (ACode.reg l10r1) (ACode.cond (.tmp 10) (ACode.seq (ACode.reg l10r2) ACode.ret) ACode.skip)) (ACode.seq (ACode.seq (ACode.reg l10r3) (ACode.block 0 (ACode.loop (ACode.seq (ACode.seq (ACode.reg l10r4) (ACode.cond (.tmp 14) ACode.skip (ACode.exit 0))) (ACode.seq (ACode.block 1 (ACode.seq (ACode.draw l10r5) (ACode.cond (.tmp 25) (ACode.seq (ACode.reg l10r6) ACode.ret) ACode.skip))) (ACode.reg l10r7)))))) (ACode.seq (ACode.reg l10r8) ACode.ret)))) [ARes.tmp 4])
theorem l10_eq : lowFn Try.prog 10 = some l10 := by kernel_rfl
def l11r0 : List AOper :=
  [AOper.mk (some 1) (.box (.tmp 0)) none [], AOper.mk (some 2) (.mv (.const (.slice none 0 0))) none []]
def l11r1 : List AOper :=
  [AOper.mk (some 3) (.load true 3 (.tmp 1)) none [], AOper.mk (some 4) (.call 9 [.tmp 3]) none [0], AOper.mk (some 5) (.un .not (.tmp 4)) none [1]]
def l11r2 : List AOper :=
  [AOper.mk (some 2) (.mv (.const (.slice none 0 0))) none []]
def l11r3 : List AOper :=
  [AOper.mk (some 6) (.load true 3 (.tmp 1)) none [], AOper.mk (some 7) (.call 28 [.tmp 6]) none [0], AOper.mk (some 2) (.mv (.tmp 7)) none [1, 1, 0, 1]]
def l11 : AFn :=
  (AFn.mk 8 1 (ACode.seq (ACode.reg l11r0) (ACode.seq (ACode.seq (ACode.reg l11r1) (ACode.cond (.tmp 5) (ACode.seq (ACode.reg l11r2) ACode.ret) ACode.skip)) (ACode.seq (ACode.reg l11r3) ACode.ret))) [ARes.tmp 2])
theorem l11_eq : lowFn Try.prog 11 = some l11 := by kernel_rfl
def l12r0 : List AOper :=
  [AOper.mk (some 4) (.mv (.const (.bool false))) none []]
def l12r1 : List AOper :=
  [AOper.mk (some 5) (.mv (.const (.int .i64 0))) none []]
def l12r2 : List AOper :=
  [AOper.mk (some 6) (.mv (.tmp 5)) none [], AOper.mk (some 7) (.mv (.tmp 0)) none [], AOper.mk (some 8) (.len (.tmp 7)) none [1], AOper.mk (some 9) (.bin .lss (.tmp 6) (.tmp 8)) none [0, 2]]
def l12r3 : List AOper :=
  [AOper.mk (some 12) (.mv (.tmp 0)) none [], AOper.mk (some 13) (.mv (.tmp 5)) none [], AOper.mk (some 14) (.idxA 1 (.tmp 12) (.tmp 13)) none [0, 1], AOper.mk (some 15) (.load false 1 (.tmp 14)) none [2], AOper.mk (some 16) (.mv (.tmp 1)) none [], AOper.mk (some 17) (.bin .eql (.tmp 15) (.tmp 16)) none [3, 4]]
def l12r4 : List AOper :=
  [AOper.mk (some 4) (.mv (.const (.bool true))) none []]
def l12r5 : List AOper :=
  [AOper.mk (some 10) (.mv (.tmp 5)) none [], AOper.mk (some 11) (.bin .add (.tmp 10) (.const (.int .i64 1))) none [0], AOper.mk (some 5) (.mv (.tmp 11)) none [1, 0, 1]]
def l12r6 : List AOper :=
  [AOper.mk (some 4) (.mv (.const (.bool false))) none []]
def l12 : AFn :=
  (AFn.mk 18 2 (ACode.seq (ACode.reg l12r0) (ACode.seq (ACode.seq (ACode.reg l12r1) (ACode.block 0 (ACode.loop (ACode.seq (ACode.seq (ACode.reg l12r2) (ACode.cond (.tmp 9) ACode.skip (ACode.exit 0))) (ACode.seq (ACode.block 1 (ACode.seq (ACode.reg l12r3) (ACode.cond (.tmp 17) (ACode.seq (ACode.reg l12r4) ACode.ret) ACode.skip))) (ACode.reg l12r5)))))) (ACode.seq (ACode.reg l12r6) ACode.ret))) [ARes.tmp 4])
theorem l12_eq : lowFn Try.prog 12 = some l12 := by kernel_rfl
def l16r0 : List AOper :=
  [AOper.mk (some 2) (.alloc [.int .i64 0, .slice none 0 0, .slice none 0 0]) none []]
def l16r1 : List AOper :=
  [AOper.mk (some 4) (.mv (.tmp 0)) none [], AOper.mk (some 5) (.call 33 [.tmp 4]) none [0], AOper.mk (some 3) (.alloc [.int .i64 0, .slice none 0 0, .slice none 0 0]) none [], AOper.mk none (.store 3 (.tmp 3) (.tmp 5)) none [2, 1, 1, 0, 1, 2]]
def l16r2 : List AOper :=
  [AOper.mk (some 6) (.mv (.tmp 0)) none [], AOper.mk (some 7) (.call 34 [.tmp 6, .const (.int .i64 24)]) none [0]]
def l16r3 : List AOper :=
  [AOper.mk (some 9) (.bin .eql (.tmp 7) (.const (.int .i64 0))) none [], AOper.mk (some 8) (.mv (.tmp 9)) none [0]]
def l16r4 : List AOper :=
  [AOper.mk (some 10) (.mv (.tmp 0)) none [], AOper.mk (some 11) (.bslice 1 [.int .i64 0] [(0, .const (.int .i64 (-1))), (1, .const (.int .i64 60)), (2, .const (.int .i64 61))] 3) none [], AOper.mk (some 12) (.call 35 [.tmp 10, .tmp 11]) none [0, 1], AOper.mk (some 13) (.fld 0 (.tmp 3)) none [0, 1, 2], AOper.mk none (.store 1 (.tmp 13) (.tmp 12)) none [3, 2, 2, 0, 1, 2]]
def l16r5 : List AOper :=
  [AOper.mk (some 15) (.bin .eql (.tmp 7) (.const (.int .i64 1))) none [], AOper.mk (some 14) (.mv (.tmp 15)) none [0]]
def l16r6 : List AOper :=
  [AOper.mk (some 16) (.fld 2 (.tmp 3)) none [], AOper.mk (some 17) (.load false 1 (.tmp 16)) none [0], AOper.mk (some 18) (.bslice 1 [.int .i64 0] [(0, .const (.int .i64 1))] 1) none [], AOper.mk (some 19) (.append 1 (.tmp 17) (.tmp 18)) none [1, 2], AOper.mk (some 20) (.fld 2 (.tmp 3)) none [0, 1, 2, 3], AOper.mk none (.store 1 (.tmp 20) (.tmp 19)) none [4, 3, 3, 0, 1, 2, 3]]
def l16r7 : List AOper :=
  [AOper.mk (some 22) (.bin .eql (.tmp 7) (.const (.int .i64 2))) none [], AOper.mk (some 21) (.mv (.tmp 22)) none [0]]
def l16r8 : List AOper :=
  [AOper.mk (some 23) (.fld 2 (.tmp 3)) none [], AOper.mk (some 24) (.load false 1 (.tmp 23)) none [0], AOper.mk (some 25) (.len (.tmp 24)) none [1], AOper.mk (some 26) (.bin .gtr (.tmp 25) (.const (.int .i64 0))) none [2]]
def l16r9a : List AOper :=
  [AOper.mk (some 27) (.fld 2 (.tmp 3)) none [], AOper.mk (some 28) (.load false 1 (.tmp 27)) none [0], AOper.mk (some 29) (.mv (.tmp 0)) none [], AOper.mk (some 30) (.bslice 1 [.int .i64 0] [(0, .const (.int .i64 61)), (1, .const (.int .i64 (-61))), (2, .const (.int .i64 60))] 3) none [], AOper.mk (some 31) (.call 35 [.tmp 29, .tmp 30]) none [2, 3]]
def l16r9b : List AOper :=
  [AOper.mk (some 32) (.idxA 1 (.tmp 28) (.const (.int .i64 0))) none [1, 0, 1, 2, 3, 4], AOper.mk none (.store 1 (.tmp 32) (.tmp 31)) none [5, 4, 4, 0, 1, 2, 3, 4]]
def l16r9 : List AOper := l16r9a ++ l16r9b
def l16r10 : List AOper :=
  [AOper.mk (some 33) (.load true 3 (.tmp 3)) none [], AOper.mk none (.store 3 (.tmp 2) (.tmp 33)) none [0, 0]]
def l16 : AFn :=
  (AFn.mk 34 1 (ACode.seq (ACode.reg l16r0) (ACode.seq (ACode.reg l16r1) (ACode.seq (ACode.seq (ACode.reg l16r2) (ACode.block 0 (ACode.seq (ACode.reg l16r3) (ACode.cond (.tmp 8) (ACode.reg l16r4) (ACode.seq (ACode.reg l16r5) (ACode.cond (.tmp 14) (ACode.reg l16r6) (ACode.seq (ACode.reg l16r7) (ACode.cond (.tmp 21) (ACode.seq (ACode.reg l16r8) (ACode.cond (.tmp 26) (ACode.draw l16r9) ACode.skip)) ACode.skip)))))))) (ACode.seq (ACode.reg l16r10) ACode.ret)))) [ARes.cell 2 true 3])
theorem l16_eq : lowFn Try.prog 16 = some l16 := by kernel_rfl
def l17r0 : List AOper :=
  [AOper.mk (some 2) (.mv (.const (.pointer none))) none []]
def l17r1 : List AOper :=
  [AOper.mk (some 3) (.mv (.tmp 0)) none [], AOper.mk (some 4) (.len (.tmp 3)) none [0], AOper.mk (some 5) (.bin .gtr (.tmp 4) (.const (.int .i64 2000))) none [1]]
def l17r2 : List AOper :=
  [AOper.mk (some 6) (.mv (.tmp 0)) none [], AOper.mk (some 7) (.slice 1 (.tmp 6) none (some (.const (.int .i64 2000)))) none [0], AOper.mk (some 0) (.mv (.tmp 7)) none [1, 0, 1]]
def l17r3 : List AOper :=
  [AOper.mk (some 8) (.mv (.tmp 0)) none [], AOper.mk (some 9) (.build [.slice none 0 0, .int .i64 0] [(0, 1, .tmp 8)]) none [0], AOper.mk (some 10) (.box (.tmp 9)) none [1], AOper.mk (some 2) (.mv (.tmp 10)) none [2, 0, 1, 2]]
def l17 : AFn :=
  (AFn.mk 11 1 (ACode.seq (ACode.reg l17r0) (ACode.seq (ACode.seq (ACode.reg l17r1) (ACode.cond (.tmp 5) (ACode.reg l17r2) ACode.skip)) (ACode.seq (ACode.reg l17r3) ACode.ret))) [ARes.tmp 2])
theorem l17_eq : lowFn Try.prog 17 = some l17 := by kernel_rfl
def l18r0 : List AOper :=
  [AOper.mk (some 1) (.box (.tmp 0)) none [], AOper.mk (some 2) (.alloc [.int .i64 0, .slice none 0 0, .slice none 0 0, .int .i64 0, .int .i64 0, .int .i64 0, .int .i64 0, .slice none 0 0]) none []]
def l18r1 : List AOper :=
  [AOper.mk (some 6) (.load true 3 (.tmp 1)) none [], AOper.mk (some 7) (.build [.int .i64 0, .slice none 0 0, .slice none 0 0, .int .i64 0, .int .i64 0, .int .i64 0, .int .i64 0, .slice none 0 0] [(0, 3, .tmp 6)]) none [0], AOper.mk (some 3) (.alloc [.int .i64 0, .slice none 0 0, .slice none 0 0, .int .i64 0, .int .i64 0, .int .i64 0, .int .i64 0, .slice none 0 0]) none [], AOper.mk none (.store 8 (.tmp 3) (.tmp 7)) none [2, 1, 0, 1, 2]]
def l18r2 : List AOper :=
  [AOper.mk (some 8) (.fld 1 (.tmp 1)) none [], AOper.mk (some 9) (.load false 1 (.tmp 8)) none [0], AOper.mk (some 10) (.len (.tmp 9)) none [1], AOper.mk (some 11) (.mv (.const (.int .i64 0))) none []]
def l18r3 : List AOper :=
  [AOper.mk (some 12) (.bin .lss (.tmp 11) (.tmp 10)) none []]
def l18r4 : List AOper :=
  [AOper.mk (some 13) (.mv (.tmp 11)) none [], AOper.mk (some 14) (.idxA 1 (.tmp 9) (.tmp 11)) none [], AOper.mk (some 15) (.load false 1 (.tmp 14)) none [1], AOper.mk (some 4) (.mv (.tmp 13)) none [0, 0, 1, 2], AOper.mk (some 5) (.mv (.tmp 15)) none [2, 3, 0, 1, 2, 3]]
def l18r5a : List AOper :=
  [AOper.mk (some 16) (.fld 7 (.tmp 3)) none [], AOper.mk (some 17) (.load false 1 (.tmp 16)) none [0], AOper.mk (some 18) (.mv (.tmp 5)) none [], AOper.mk (some 19) (.fld 2 (.tmp 1)) none [], AOper.mk (some 20) (.load false 1 (.tmp 19)) none [3], AOper.mk (some 21) (.mv (.tmp 4)) none [], AOper.mk (some 22) (.idxA 1 (.tmp 20) (.tmp 21)) none [4, 5], AOper.mk (some 23) (.load false 1 (.tmp 22)) none [6], AOper.mk (some 24) (.build [.int .i64 0, .int .i64 0] [(0, 1, .tmp 18), (1, 1, .tmp 23)]) none [2, 7], AOper.mk (some 25) (.bslice 2 [.int .i64 0, .int .i64 0] [(0, .tmp 24)] 1) none [8]]
def l18r5b : List AOper :=
  [AOper.mk (some 26) (.append 2 (.tmp 17) (.tmp 25)) none [1, 9], AOper.mk (some 27) (.fld 7 (.tmp 3)) none [0, 1, 2, 3, 4, 5, 6, 7, 8, 9, 10], AOper.mk none (.store 1 (.tmp 27) (.tmp 26)) none [11, 10, 10, 0, 1, 2, 3, 4, 5, 6, 7, 8, 9, 10]]
def l18r5 : List AOper := l18r5a ++ l18r5b
def l18r6 : List AOper :=
  [AOper.mk (some 28) (.bin .add (.tmp 11) (.const (.int .i64 1))) none [], AOper.mk (some 11) (.mv (.tmp 28)) none [0]]
def l18r7 : List AOper :=
  [AOper.mk (some 29) (.load true 8 (.tmp 3)) none [], AOper.mk none (.store 8 (.tmp 2) (.tmp 29)) none [0, 0]]
def l18 : AFn :=
  (AFn.mk 30 1 (ACode.seq (ACode.reg l18r0) (ACode.seq (ACode.reg l18r1) (ACode.seq (ACode.seq (ACode.reg l18r2) (ACode.block 0 (ACode.loop (ACode.seq (ACode.reg l18r3) (ACode.seq (ACode.cond (.tmp 12) ACode.skip (ACode.exit 0)) (ACode.seq (ACode.block 1 (ACode.seq (ACode.reg l18r4) (ACode.draw l18r5))) (ACode.reg l18r6))))))) (ACode.seq (ACode.reg l18r7) ACode.ret)))) [ARes.cell 2 true 8])
theorem l18_eq : lowFn Try.prog 18 = some l18 := by kernel_rfl
def l19r0 : List AOper :=
  [AOper.mk (some 4) (.mv (.const (.slice none 0 0))) none []]
def l19r1 : List AOper :=
  [AOper.mk (some 8) (.mv (.tmp 0)) none [], AOper.mk (some 9) (.mv (.tmp 1)) none [], AOper.mk (some 10) (.call 36 [.tmp 8, .tmp 9]) none [0, 1], AOper.mk (some 5) (.mv (.tmp 10)) none [2, 2, 0, 1, 2]]
def l19r2 : List AOper :=
  [AOper.mk (some 11) (.mv (.tmp 5)) none [], AOper.mk (some 12) (.bin .eql (.tmp 11) (.const (.int .i64 (-1)))) none [0]]
def l19r3 : List AOper :=
  [AOper.mk (some 13) (.mv (.tmp 0)) none [], AOper.mk (some 4) (.mv (.tmp 13)) none [0, 0]]
def l19r4 : List AOper :=
  [AOper.mk (some 14) (.mv (.tmp 5)) none [], AOper.mk (some 15) (.bin .add (.tmp 14) (.const (.int .i64 1))) none [0], AOper.mk (some 6) (.mv (.tmp 15)) none [1, 0, 1]]
def l19r5 : List AOper :=
  [AOper.mk (some 16) (.mv (.tmp 6)) none [], AOper.mk (some 17) (.mv (.tmp 0)) none [], AOper.mk (some 18) (.len (.tmp 17)) none [1], AOper.mk (some 19) (.bin .lss (.tmp 16) (.tmp 18)) none [0, 2]]
def l19r6 : List AOper :=
  [AOper.mk (some 22) (.mv (.tmp 0)) none [], AOper.mk (some 23) (.mv (.tmp 6)) none [], AOper.mk (some 24) (.idxA 2 (.tmp 22) (.tmp 23)) none [0, 1], AOper.mk (some 25) (.load true 2 (.tmp 24)) none [2], AOper.mk (some 7) (.alloc [.int .i64 0, .int .i64 0]) none [], AOper.mk none (.store 2 (.tmp 7) (.tmp 25)) none [4, 3, 0, 1, 2, 3, 4]]
def l19r7 : List AOper :=
  [AOper.mk (some 26) (.mv (.tmp 1)) none [], AOper.mk (some 27) (.load true 2 (.tmp 7)) none [], AOper.mk (some 28) (.raw (Op.call (Call.mk (Callee.value (.tmp 26)) (Array.mk [.tmp 27]) (Array.mk [47])))) none [0, 1], AOper.mk (some 29) (.un .not (.tmp 28)) none [2]]
def l19r8 : List AOper :=
  [AOper.mk (some 30) (.mv (.tmp 0)) none [], AOper.mk (some 31) (.mv (.tmp 5)) none [], AOper.mk (some 32) (.load true 2 (.tmp 7)) none [], AOper.mk (some 33) (.idxA 2 (.tmp 30) (.tmp 31)) none [0, 1, 0, 1, 2], AOper.mk none (.store 2 (.tmp 33) (.tmp 32)) none [3, 2, 0, 1, 2]]
def l19r9 : List AOper :=
  [AOper.mk (some 34) (.mv (.tmp 5)) none [], AOper.mk (some 35) (.bin .add (.tmp 34) (.const (.int .i64 1))) none [0], AOper.mk (some 5) (.mv (.tmp 35)) none [1, 0, 1]]
def l19r10 : List AOper :=
  [AOper.mk (some 20) (.mv (.tmp 6)) none [], AOper.mk (some 21) (.bin .add (.tmp 20) (.const (.int .i64 1))) none [0], AOper.mk (some 6) (.mv (.tmp 21)) none [1, 0, 1]]
def l19r11 : List AOper :=
  [AOper.mk (some 36) (.mv (.tmp 0)) none [], AOper.mk (some 37) (.mv (.tmp 5)) none [], AOper.mk (some 38) (.slice 2 (.tmp 36) (some (.tmp 37)) none) none [0, 1], AOper.mk none (.clr 2 [.int .i64 0, .int .i64 0] (.tmp 38)) none [2]]
def l19r12 : List AOper :=
  [AOper.mk (some 39) (.mv (.tmp 0)) none [], AOper.mk (some 40) (.mv (.tmp 5)) none [], AOper.mk (some 41) (.slice 2 (.tmp 39) none (some (.tmp 40))) none [0, 1], AOper.mk (some 4) (.mv (.tmp 41)) none [2, 0, 1, 2]]
def l19 : AFn :=
  (AFn.mk 42 2 (ACode.seq (ACode.reg l19r0) (ACode.seq (ACode.reg l19r1) (ACode.seq (ACode.seq (ACode.reg l19r2) (ACode.cond (.tmp 12) (ACode.seq (ACode.reg l19r3) ACode.ret) ACode.skip)) (ACode.seq (ACode.seq (ACode.reg l19r4) (ACode.block 0 (ACode.loop (ACode.seq (ACode.seq (ACode.reg l19r5) (ACode.cond (.tmp 19) ACode.skip (ACode.exit 0))) (ACode.seq (ACode.block 1 (ACode.seq (ACode.reg l19r6) (ACode.seq (ACode.reg l19r7) (ACode.cond (.tmp 29) (ACode.seq (ACode.reg l19r8) (ACode.reg l19r9)) ACode.skip)))) (ACode.reg l19r10)))))) (ACode.seq (ACode.reg l19r11) (ACode.seq (ACode.reg l19r12) ACode.ret)))))) [ARes.tmp 4])
theorem l19_eq : lowFn Try.prog 19 = some l19 := by kernel_rfl
def l20r0 : List AOper :=
  [AOper.mk (some 1) (.box (.tmp 0)) none [], AOper.mk (some 2) (.mv (.const (.bool false))) none []]
def l20r1 : List AOper :=
  [AOper.mk (some 3) (.fld 0 (.tmp 1)) none [], AOper.mk (some 4) (.load false 1 (.tmp 3)) none [0], AOper.mk (some 5) (.bin .eql (.tmp 4) (.const (.int .i64 1))) none [1], AOper.mk (some 2) (.mv (.tmp 5)) none [2, 0, 1, 2]]
def l20 : AFn :=
  (AFn.mk 6 1 (ACode.seq (ACode.reg l20r0) (ACode.seq (ACode.reg l20r1) ACode.ret)) [ARes.tmp 2])
theorem l20_eq : lowFn Try.prog 20 = some l20 := by kernel_rfl
def l21r0 : List AOper :=
  [AOper.mk (some 1) (.box (.tmp 0)) none [], AOper.mk (some 2) (.alloc [.int .i64 0, .slice none 0 0, .slice none 0 0]) none []]
def l21r1 : List AOper :=
  [AOper.mk (some 6) (.fld 0 (.tmp 1)) none [], AOper.mk (some 7) (.load true 3 (.tmp 6)) none [0], AOper.mk (some 8) (.fld 3 (.tmp 1)) none [], AOper.mk (some 9) (.load true 4 (.tmp 8)) none [2], AOper.mk (some 10) (.call 37 [.tmp 7, .tmp 9]) none [1, 3], AOper.mk (some 11) (.build [.int .i64 0, .slice none 0 0, .slice none 0 0] [(0, 1, .tmp 10)]) none [4], AOper.mk (some 3) (.alloc [.int .i64 0, .slice none 0 0, .slice none 0 0]) none [], AOper.mk none (.store 3 (.tmp 3) (.tmp 11)) none [6, 5, 4, 0, 1, 2, 3, 4, 5, 6]]
def l21r2 : List AOper :=
  [AOper.mk (some 12) (.fld 7 (.tmp 1)) none [], AOper.mk (some 13) (.load false 1 (.tmp 12)) none [0], AOper.mk (some 14) (.len (.tmp 13)) none [1], AOper.mk (some 15) (.mv (.const (.int .i64 0))) none []]
def l21r3 : List AOper :=
  [AOper.mk (some 16) (.bin .lss (.tmp 15) (.tmp 14)) none []]
def l21r4 : List AOper :=
  [AOper.mk (some 17) (.idxA 2 (.tmp 13) (.tmp 15)) none [], AOper.mk (some 18) (.load true 2 (.tmp 17)) none [0], AOper.mk (some 5) (.alloc [.int .i64 0, .int .i64 0]) none [], AOper.mk none (.store 2 (.tmp 5) (.tmp 18)) none [2, 1, 0, 1, 2]]
def l21r5 : List AOper :=
  [AOper.mk (some 19) (.fld 1 (.tmp 3)) none [], AOper.mk (some 20) (.load false 1 (.tmp 19)) none [0], AOper.mk (some 21) (.fld 0 (.tmp 5)) none [], AOper.mk (some 22) (.load false 1 (.tmp 21)) none [2], AOper.mk (some 23) (.bslice 1 [.int .i64 0] [(0, .tmp 22)] 1) none [3], AOper.mk (some 24) (.append 1 (.tmp 20) (.tmp 23)) none [1, 4], AOper.mk (some 25) (.fld 1 (.tmp 3)) none [0, 1, 2, 3, 4, 5], AOper.mk none (.store 1 (.tmp 25) (.tmp 24)) none [6, 5, 5, 0, 1, 2, 3, 4, 5]]
def l21r6 : List AOper :=
  [AOper.mk (some 26) (.fld 2 (.tmp 3)) none [], AOper.mk (some 27) (.load false 1 (.tmp 26)) none [0], AOper.mk (some 28) (.fld 1 (.tmp 5)) none [], AOper.mk (some 29) (.load false 1 (.tmp 28)) none [2], AOper.mk (some 30) (.bslice 1 [.int .i64 0] [(0, .tmp 29)] 1) none [3], AOper.mk (some 31) (.append 1 (.tmp 27) (.tmp 30)) none [1, 4], AOper.mk (some 32) (.fld 2 (.tmp 3)) none [0, 1, 2, 3, 4, 5], AOper.mk none (.store 1 (.tmp 32) (.tmp 31)) none [6, 5, 5, 0, 1, 2, 3, 4, 5]]
def l21r7 : List AOper :=
  [AOper.mk (some 33) (.bin .add (.tmp 15) (.const (.int .i64 1))) none [], AOper.mk (some 15) (.mv (.tmp 33)) none [0]]
def l21r8 : List AOper :=
  [AOper.mk (some 34) (.load true 3 (.tmp 3)) none [], AOper.mk none (.store 3 (.tmp 2) (.tmp 34)) none [0, 0]]
def l21 : AFn :=
  (AFn.mk 35 1 (ACode.seq (ACode.reg l21r0) (ACode.seq (ACode.reg l21r1) (ACode.seq (ACode.seq (ACode.reg l21r2) (ACode.block 0 (ACode.loop (ACode.seq (ACode.reg l21r3) (ACode.seq (ACode.cond (.tmp 16) ACode.skip (ACode.exit 0)) (ACode.seq (ACode.block 1 (ACode.seq (ACode.reg l21r4) (ACode.seq (ACode.reg l21r5) (ACode.reg l21r6)))) (ACode.reg l21r7))))))) (ACode.seq (ACode.reg l21r8) ACode.ret)))) [ARes.cell 2 true 3])
theorem l21_eq : lowFn Try.prog 21 = some l21 := by kernel_rfl
def l22r0 : List AOper :=
  [AOper.mk (some 1) (.box (.tmp 0)) none [], AOper.mk (some 2) (.mv (.const (.bool false))) none []]
def l22r1 : List AOper :=
  [AOper.mk (some 3) (.fld 1 (.tmp 1)) none [], AOper.mk (some 4) (.load false 1 (.tmp 3)) none [0], AOper.mk (some 5) (.call 38 [.tmp 4]) none [1], AOper.mk (some 6) (.mv (.tmp 5)) none [2, 2], AOper.mk (some 7) (.fld 2 (.tmp 1)) (some (6, true)) [3], AOper.mk (some 8) (.load false 1 (.tmp 7)) (some (6, true)) [4, 3], AOper.mk (some 9) (.len (.tmp 8)) (some (6, true)) [5, 3], AOper.mk (some 10) (.fld 1 (.tmp 1)) (some (6, true)) [3], AOper.mk (some 11) (.load false 1 (.tmp 10)) (some (6, true)) [7, 3], AOper.mk (some 12) (.len (.tmp 11)) (some (6, true)) [8, 3], AOper.mk (some 13) (.bin .eql (.tmp 9) (.tmp 12)) (some (6, true)) [6, 9, 3], AOper.mk (some 14) (.pick (.tmp 6) (.tmp 13) (.const (.bool false))) none [3, 10], AOper.mk (some 15) (.mv (.tmp 14)) none [11, 3], AOper.mk (some 16) (.fld 2 (.tmp 1)) (some (15, true)) [12], AOper.mk (some 17) (.load false 1 (.tmp 16)) (some (15, true)) [13, 12], AOper.mk (some 18) (.call 39 [.tmp 17, .const (.int .i64 (-60)), .const (.int .i64 60)]) (some (15, true)) [14, 12, 12], AOper.mk (some 19) (.pick (.tmp 15) (.tmp 18) (.const (.bool false))) none [12, 15], AOper.mk (some 20) (.mv (.tmp 19)) none [16, 15], AOper.mk (some 21) (.fld 0 (.tmp 1)) (some (20, true)) [17], AOper.mk (some 22) (.load false 1 (.tmp 21)) (some (20, true)) [18, 17], AOper.mk (some 23) (.call 40 [.tmp 22, .const (.int .i64 0), .const (.int .i64 60)]) (some (20, true)) [19, 17, 17], AOper.mk (some 24) (.pick (.tmp 20) (.tmp 23) (.const (.bool false))) none [17, 20], AOper.mk (some 25) (.mv (.tmp 24)) none [21, 20], AOper.mk (some 26) (.fld 1 (.tmp 1)) (some (25, true)) [22], AOper.mk (some 27) (.load false 1 (.tmp 26)) (some (25, true)) [23, 22], AOper.mk (some 28) (.call 41 [.tmp 27]) (some (25, true)) [24, 22, 22], AOper.mk (some 29) (.bin .eql (.tmp 28) (.const (.int .i64 0))) (some (25, true)) [25, 22], AOper.mk (some 30) (.mv (.tmp 29)) (some (25, true)) [26, 25, 22], AOper.mk (some 31) (.load true 3 (.tmp 1)) (some (30, false)) [27], AOper.mk (some 32) (.call 42 [.tmp 31]) (some (30, false)) [28, 27, 27], AOper.mk (some 33) (.call 39 [.tmp 32, .const (.int .i64 0), .const (.int .i64 59)]) (some (30, false)) [29, 29, 27], AOper.mk (some 34) (.pick (.tmp 30) (.const (.bool true)) (.tmp 33)) (some (25, true)) [27, 30, 22], AOper.mk (some 35) (.pick (.tmp 25) (.tmp 34) (.const (.bool false))) none [22, 31], AOper.mk (some 2) (.mv (.tmp 35)) none [32, 30, 0, 1, 2, 3, 4, 5, 6, 7, 8, 9, 10, 11, 12, 13, 14, 15, 16, 17, 18, 19, 20, 21, 22, 23, 24, 25, 26, 27, 28, 29, 30, 31, 32]]
def l22 : AFn :=
  (AFn.mk 36 1 (ACode.seq (ACode.reg l22r0) (ACode.seq (ACode.reg l22r1) ACode.ret)) [ARes.tmp 2])
theorem l22_eq : lowFn Try.prog 22 = some l22 := by kernel_rfl
def l23r0 : List AOper :=
  [AOper.mk (some 2) (.mv (.const (.bool false))) none []]
def l23r1 : List AOper :=
  [AOper.mk (some 5) (.mv (.tmp 0)) none [], AOper.mk (some 6) (.len (.tmp 5)) none [0], AOper.mk (some 7) (.bin .gtr (.tmp 6) (.const (.int .i64 4))) none [1]]
def l23r2 : List AOper :=
  [AOper.mk (some 2) (.mv (.const (.bool false))) none []]
def l23r3 : List AOper :=
  [AOper.mk (some 8) (.mv (.tmp 0)) none [], AOper.mk (some 9) (.len (.tmp 8)) none [0], AOper.mk (some 10) (.mv (.const (.int .i64 0))) none []]
def l23r4 : List AOper :=
  [AOper.mk (some 11) (.bin .lss (.tmp 10) (.tmp 9)) none []]
def l23r5 : List AOper :=
  [AOper.mk (some 12) (.idxA 1 (.tmp 8) (.tmp 10)) none [], AOper.mk (some 13) (.load false 1 (.tmp 12)) none [0], AOper.mk (some 4) (.mv (.tmp 13)) none [1, 0, 1]]
def l23r6 : List AOper :=
  [AOper.mk (some 14) (.mv (.tmp 4)) none [], AOper.mk (some 15) (.call 25 [.tmp 14, .const (.int .i64 60)]) none [0], AOper.mk (some 16) (.un .not (.tmp 15)) none [1]]
def l23r7 : List AOper :=
  [AOper.mk (some 2) (.mv (.const (.bool false))) none []]
def l23r8 : List AOper :=
  [AOper.mk (some 17) (.bin .add (.tmp 10) (.const (.int .i64 1))) none [], AOper.mk (some 10) (.mv (.tmp 17)) none [0]]
def l23r9 : List AOper :=
  [AOper.mk (some 18) (.mv (.tmp 0)) none [], AOper.mk (some 19) (.call 43 [.tmp 18]) none [0], AOper.mk (some 20) (.bin .leq (.tmp 19) (.const (.int .i64 60))) none [1], AOper.mk (some 2) (.mv (.tmp 20)) none [2, 1, 0, 1, 2]]
def l23 : AFn :=
  (AFn.mk 21 1 (ACode.seq (ACode.reg l23r0) (ACode.seq (ACode.seq (ACode.reg l23r1) (ACode.cond (.tmp 7) (ACode.seq (ACode.reg l23r2) ACode.ret) ACode.skip)) (ACode.seq (ACode.seq (ACode.reg l23r3) (ACode.block 0 (ACode.loop (ACode.seq (ACode.reg l23r4) (ACode.seq (ACode.cond (.tmp 11) ACode.skip (ACode.exit 0)) (ACode.seq (ACode.block 1 (ACode.seq (ACode.reg l23r5) (ACode.seq (ACode.reg l23r6) (ACode.cond (.tmp 16) (ACode.seq (ACode.reg l23r7) ACode.ret) ACode.skip)))) (ACode.reg l23r8))))))) (ACode.seq (ACode.reg l23r9) ACode.ret)))) [ARes.tmp 2])
theorem l23_eq : lowFn Try.prog 23 = some l23 := by kernel_rfl
def l24r0 : List AOper :=
  [AOper.mk (some 4) (.mv (.const (.bool false))) none []]
def l24r1 : List AOper :=
  [AOper.mk (some 7) (.mv (.tmp 0)) none [], AOper.mk (some 8) (.len (.tmp 7)) none [0], AOper.mk (some 9) (.mv (.tmp 1)) none [], AOper.mk (some 10) (.bin .neq (.tmp 8) (.tmp 9)) none [1, 2]]
def l24r2 : List AOper :=
  [AOper.mk (some 4) (.mv (.const (.bool false))) none []]
def l24r3 : List AOper :=
  [AOper.mk (some 11) (.mv (.tmp 0)) none [], AOper.mk (some 12) (.len (.tmp 11)) none [0], AOper.mk (some 13) (.mv (.const (.int .i64 0))) none []]
def l24r4 : List AOper :=
  [AOper.mk (some 14) (.bin .lss (.tmp 13) (.tmp 12)) none []]
def l24r5 : List AOper :=
  [AOper.mk (some 15) (.idxA 1 (.tmp 11) (.tmp 13)) none [], AOper.mk (some 16) (.load false 1 (.tmp 15)) none [0], AOper.mk (some 6) (.mv (.tmp 16)) none [1, 0, 1]]
def l24r6 : List AOper :=
  [AOper.mk (some 17) (.mv (.tmp 6)) none [], AOper.mk (some 18) (.call 44 [.tmp 17, .const (.int .i64 60)]) none [0], AOper.mk (some 19) (.un .not (.tmp 18)) none [1]]
def l24r7 : List AOper :=
  [AOper.mk (some 4) (.mv (.const (.bool false))) none []]
def l24r8 : List AOper :=
  [AOper.mk (some 20) (.bin .add (.tmp 13) (.const (.int .i64 1))) none [], AOper.mk (some 13) (.mv (.tmp 20)) none [0]]
def l24r9 : List AOper :=
  [AOper.mk (some 4) (.mv (.const (.bool true))) none []]
def l24 : AFn :=
  (AFn.mk 21 2 (ACode.seq (ACode.reg l24r0) (ACode.seq (ACode.seq (ACode.reg l24r1) (ACode.cond (.tmp 10) (ACode.seq (ACode.reg l24r2) ACode.ret) ACode.skip)) (ACode.seq (ACode.seq (ACode.reg l24r3) (ACode.block 0 (ACode.loop (ACode.seq (ACode.reg l24r4) (ACode.seq (ACode.cond (.tmp 14) ACode.skip (ACode.exit 0)) (ACode.seq (ACode.block 1 (ACode.seq (ACode.reg l24r5) (ACode.seq (ACode.reg l24r6) (ACode.cond (.tmp 19) (ACode.seq (ACode.reg l24r7) ACode.ret) ACode.skip)))) (ACode.reg l24r8))))))) (ACode.seq (ACode.reg l24r9) ACode.ret)))) [ARes.tmp 4])
theorem l24_eq : lowFn Try.prog 24 = some l24 := by kernel_rfl
def l25r0 : List AOper :=
  [AOper.mk (some 4) (.mv (.const (.bool false))) none []]
def l25r1 : List AOper :=
  [AOper.mk (some 5) (.mv (.tmp 0)) none [], AOper.mk (some 6) (.bin .leq (.const (.int .i64 0)) (.tmp 5)) none [0], AOper.mk (some 7) (.mv (.tmp 6)) none [1], AOper.mk (some 8) (.mv (.tmp 0)) (some (7, true)) [2], AOper.mk (some 9) (.mv (.tmp 1)) (some (7, true)) [2], AOper.mk (some 10) (.bin .leq (.tmp 8) (.tmp 9)) (some (7, true)) [3, 4, 2], AOper.mk (some 11) (.pick (.tmp 7) (.tmp 10) (.const (.bool false))) none [2, 5], AOper.mk (some 4) (.mv (.tmp 11)) none [6, 2, 0, 1, 2, 3, 4, 5, 6]]
def l25 : AFn :=
  (AFn.mk 12 2 (ACode.seq (ACode.reg l25r0) (ACode.seq (ACode.reg l25r1) ACode.ret)) [ARes.tmp 4])
theorem l25_eq : lowFn Try.prog 25 = some l25 := by kernel_rfl
def l26r0 : List AOper :=
  [AOper.mk (some 1) (.box (.tmp 0)) none [], AOper.mk (some 2) (.mv (.const (.int .i64 0))) none [], AOper.mk (some 3) (.mv (.const (.int .i64 0))) none [1]]
def l26r1 : List AOper :=
  [AOper.mk (some 9) (.load true 3 (.tmp 1)) none [], AOper.mk (some 10) (.call 27 [.tmp 9]) none [0], AOper.mk (some 11) (.bin .eql (.tmp 10) (.const (.int .i64 0))) none [1]]
def l26r2 : List AOper :=
  [AOper.mk (some 2) (.mv (.const (.int .i64 (-1)))) none [], AOper.mk (some 3) (.mv (.const (.int .i64 (-1)))) none [0, 0]]
def l26r3a : List AOper :=
  [AOper.mk (some 12) (.fld 0 (.tmp 1)) none [], AOper.mk (some 13) (.load false 1 (.tmp 12)) none [0], AOper.mk (some 14) (.fld 0 (.tmp 1)) none [], AOper.mk (some 15) (.load false 1 (.tmp 14)) none [2], AOper.mk (some 4) (.mv (.tmp 13)) none [1, 0, 1]]
def l26r3b : List AOper :=
  [AOper.mk (some 5) (.mv (.tmp 15)) none [3, 4, 0, 1, 2, 3, 4]]
def l26r3 : List AOper := l26r3a ++ l26r3b
def l26r4 : List AOper :=
  [AOper.mk (some 16) (.fld 2 (.tmp 1)) none [], AOper.mk (some 17) (.load false 1 (.tmp 16)) none [0], AOper.mk (some 18) (.len (.tmp 17)) none [1], AOper.mk (some 19) (.mv (.const (.int .i64 0))) none []]
def l26r5 : List AOper :=
  [AOper.mk (some 20) (.bin .lss (.tmp 19) (.tmp 18)) none []]
def l26r6 : List AOper :=
  [AOper.mk (some 21) (.mv (.tmp 19)) none [], AOper.mk (some 22) (.idxA 1 (.tmp 17) (.tmp 19)) none [], AOper.mk (some 23) (.load false 1 (.tmp 22)) none [1], AOper.mk (some 6) (.mv (.tmp 21)) none [0, 0, 1, 2], AOper.mk (some 7) (.mv (.tmp 23)) none [2, 3, 0, 1, 2, 3]]
def l26r7 : List AOper :=
  [AOper.mk (some 24) (.fld 1 (.tmp 1)) none [], AOper.mk (some 25) (.load false 1 (.tmp 24)) none [0], AOper.mk (some 26) (.mv (.tmp 6)) none [], AOper.mk (some 27) (.idxA 1 (.tmp 25) (.tmp 26)) none [1, 2], AOper.mk (some 28) (.load false 1 (.tmp 27)) none [3], AOper.mk (some 29) (.bin .sub (.tmp 28) (.const (.int .i64 1))) none [4], AOper.mk (some 30) (.mv (.tmp 7)) none [], AOper.mk (some 31) (.bin .mul (.tmp 29) (.tmp 30)) none [5, 6], AOper.mk (some 8) (.mv (.tmp 31)) none [7, 0, 1, 2, 3, 4, 5, 6, 7]]
def l26r8 : List AOper :=
  [AOper.mk (some 32) (.mv (.tmp 4)) none [], AOper.mk (some 33) (.mv (.tmp 8)) none [], AOper.mk (some 34) (.minmax false (.tmp 33) (.const (.int .i64 0))) none [1], AOper.mk (some 35) (.bin .add (.tmp 32) (.tmp 34)) none [0, 2], AOper.mk (some 4) (.mv (.tmp 35)) none [3, 0, 1, 2, 3]]
def l26r9 : List AOper :=
  [AOper.mk (some 36) (.mv (.tmp 5)) none [], AOper.mk (some 37) (.mv (.tmp 8)) none [], AOper.mk (some 38) (.minmax true (.tmp 37) (.const (.int .i64 0))) none [1], AOper.mk (some 39) (.bin .add (.tmp 36) (.tmp 38)) none [0, 2], AOper.mk (some 5) (.mv (.tmp 39)) none [3, 0, 1, 2, 3]]
def l26r10 : List AOper :=
  [AOper.mk (some 40) (.bin .add (.tmp 19) (.const (.int .i64 1))) none [], AOper.mk (some 19) (.mv (.tmp 40)) none [0]]
def l26r11 : List AOper :=
  [AOper.mk (some 41) (.mv (.tmp 4)) none [], AOper.mk (some 42) (.mv (.tmp 5)) none [], AOper.mk (some 2) (.mv (.tmp 41)) none [0, 0], AOper.mk (some 3) (.mv (.tmp 42)) none [1, 2, 0, 1, 2]]
def l26 : AFn :=
  (AFn.mk 43 1 (ACode.seq (ACode.reg l26r0) (ACode.seq (ACode.seq (ACode.reg l26r1) (ACode.cond (.tmp 11) (ACode.seq (ACode.reg l26r2) ACode.ret) ACode.skip)) (ACode.seq (ACode.draw l26r3) (ACode.seq (ACode.seq (ACode.reg l26r4) (ACode.block 0 (ACode.loop (ACode.seq (ACode.reg l26r5) (ACode.seq (ACode.cond (.tmp 20) ACode.skip (ACode.exit 0)) (ACode.seq (ACode.block 1 (ACode.seq (ACode.reg l26r6) (ACode.seq (ACode.reg l26r7) (ACode.seq (ACode.reg l26r8) (ACode.reg l26r9))))) (ACode.reg l26r10))))))) (ACode.seq (ACode.reg l26r11) ACode.ret))))) [ARes.tmp 2, ARes.tmp 3])
theorem l26_eq : lowFn Try.prog 26 = some l26 := by kernel_rfl
def l27r0 : List AOper :=
  [AOper.mk (some 1) (.box (.tmp 0)) none [], AOper.mk (some 2) (.mv (.const (.int .i64 0))) none []]
def l27r1 : List AOper :=
  [AOper.mk (some 3) (.fld 1 (.tmp 1)) none [], AOper.mk (some 4) (.load false 1 (.tmp 3)) none [0], AOper.mk (some 5) (.call 43 [.tmp 4]) none [1], AOper.mk (some 2) (.mv (.tmp 5)) none [2, 2, 0, 1, 2]]
def l27 : AFn :=
  (AFn.mk 6 1 (ACode.seq (ACode.reg l27r0) (ACode.seq (ACode.reg l27r1) ACode.ret)) [ARes.tmp 2])
theorem l27_eq : lowFn Try.prog 27 = some l27 := by kernel_rfl
def l28r0 : List AOper :=
  [AOper.mk (some 1) (.box (.tmp 0)) none [], AOper.mk (some 2) (.mv (.const (.slice none 0 0))) none []]
def l28r1 : List AOper :=
  [AOper.mk (some 5) (.load true 3 (.tmp 1)) none [], AOper.mk (some 6) (.call 27 [.tmp 5]) none [0], AOper.mk (some 7) (.mkslice 1 [.int .i64 0] (.tmp 6) (.tmp 6)) none [1, 1], AOper.mk (some 3) (.mv (.tmp 7)) none [2, 1, 0, 1, 2]]
def l28r2 : List AOper :=
  [AOper.mk (some 8) (.mv (.tmp 3)) none [], AOper.mk (some 9) (.len (.tmp 8)) none [0], AOper.mk (some 10) (.mv (.const (.int .i64 0))) none []]
def l28r3 : List AOper :=
  [AOper.mk (some 11) (.bin .lss (.tmp 10) (.tmp 9)) none []]
def l28r4 : List AOper :=
  [AOper.mk (some 12) (.mv (.tmp 10)) none [], AOper.mk (some 4) (.mv (.tmp 12)) none [0, 0]]
def l28r5a : List AOper :=
  [AOper.mk (some 13) (.mv (.tmp 3)) none [], AOper.mk (some 14) (.mv (.tmp 4)) none [], AOper.mk (some 15) (.load true 3 (.tmp 1)) none [], AOper.mk (some 16) (.fld 1 (.tmp 1)) none [], AOper.mk (some 17) (.load false 1 (.tmp 16)) none [3], AOper.mk (some 18) (.mv (.tmp 4)) none [], AOper.mk (some 19) (.call 45 [.tmp 17, .tmp 18]) none [4, 5], AOper.mk (some 20) (.call 37 [.tmp 15, .tmp 19]) none [2, 6, 6]]
def l28r5b : List AOper :=
  [AOper.mk (some 21) (.idxA 1 (.tmp 13) (.tmp 14)) none [0, 1, 0, 1, 2, 3, 4, 5, 6, 7], AOper.mk none (.store 1 (.tmp 21) (.tmp 20)) none [8, 7, 7, 0, 1, 2, 3, 4, 5, 6, 7]]
def l28r5 : List AOper := l28r5a ++ l28r5b
def l28r6 : List AOper :=
  [AOper.mk (some 22) (.bin .add (.tmp 10) (.const (.int .i64 1))) none [], AOper.mk (some 10) (.mv (.tmp 22)) none [0]]
def l28r7 : List AOper :=
  [AOper.mk (some 23) (.mv (.tmp 3)) none [], AOper.mk (some 2) (.mv (.tmp 23)) none [0, 0]]
def l28 : AFn :=
  (AFn.mk 24 1 (ACode.seq (ACode.reg l28r0) (ACode.seq (ACode.reg l28r1) (ACode.seq (ACode.seq (ACode.reg l28r2) (ACode.block 0 (ACode.loop (ACode.seq (ACode.reg l28r3) (ACode.seq (ACode.cond (.tmp 11) ACode.skip (ACode.exit 0)) (ACode.seq (ACode.block 1 (ACode.seq (ACode.reg l28r4) (ACode.draw l28r5))) (ACode.reg l28r6))))))) (ACode.seq (ACode.reg l28r7) ACode.ret)))) [ARes.tmp 2])
theorem l28_eq : lowFn Try.prog 28 = some l28 := by kernel_rfl
def l33r0 : List AOper :=
  [AOper.mk (some 2) (.alloc [.int .i64 0, .slice none 0 0, .slice none 0 0]) none []]
def l33r1 : List AOper :=
  [AOper.mk (some 8) (.mv (.tmp 0)) none [], AOper.mk (some 9) (.call 47 [.tmp 8]) none [0], AOper.mk (some 10) (.call 46 [.tmp 9]) none [1, 1], AOper.mk (some 3) (.alloc [.int .i64 0, .slice none 0 0, .slice none 0 0]) none [], AOper.mk none (.store 3 (.tmp 3) (.tmp 10)) none [3, 2, 2, 0, 1, 2, 3]]
def l33r2 : List AOper :=
  [AOper.mk (some 11) (.mv (.tmp 0)) none [], AOper.mk (some 12) (.mv (.tmp 0)) none [], AOper.mk (some 13) (.call 34 [.tmp 12, .const (.int .i64 10)]) none [1], AOper.mk (some 14) (.bslice 1 [.int .i64 0] [(0, .const (.int .i64 0)), (1, .const (.int .i64 0)), (2, .const (.int .i64 1)), (3, .const (.int .i64 3)), (4, .tmp 13)] 5) none [2], AOper.mk (some 15) (.call 35 [.tmp 11, .tmp 14]) none [0, 3, 2], AOper.mk (some 16) (.fld 0 (.tmp 3)) none [0, 1, 2, 3, 4], AOper.mk none (.store 1 (.tmp 16) (.tmp 15)) none [5, 4, 4, 0, 1, 2, 3, 4]]
def l33r3 : List AOper :=
  [AOper.mk (some 17) (.mv (.tmp 0)) none [], AOper.mk (some 18) (.call 34 [.tmp 17, .const (.int .i64 4)]) none [0], AOper.mk (some 4) (.mv (.tmp 18)) none [1, 1, 0, 1]]
def l33r4 : List AOper :=
  [AOper.mk (some 19) (.mv (.tmp 4)) none [], AOper.mk (some 20) (.bin .gtr (.tmp 19) (.const (.int .i64 0))) none [0], AOper.mk (some 21) (.mv (.tmp 20)) none [1], AOper.mk (some 22) (.fld 1 (.tmp 3)) (some (21, true)) [2], AOper.mk (some 23) (.load false 1 (.tmp 22)) (some (21, true)) [3, 2], AOper.mk (some 24) (.len (.tmp 23)) (some (21, true)) [4, 2], AOper.mk (some 25) (.bin .gtr (.tmp 24) (.const (.int .i64 0))) (some (21, true)) [5, 2], AOper.mk (some 26) (.pick (.tmp 21) (.tmp 25) (.const (.bool false))) none [2, 6]]
def l33r5 : List AOper :=
  [AOper.mk (some 29) (.mv (.tmp 0)) none [], AOper.mk (some 30) (.fld 1 (.tmp 3)) none [], AOper.mk (some 31) (.load false 1 (.tmp 30)) none [1], AOper.mk (some 32) (.len (.tmp 31)) none [2], AOper.mk (some 33) (.call 34 [.tmp 29, .tmp 32]) none [0, 3], AOper.mk (some 5) (.mv (.tmp 33)) none [4, 4, 0, 1, 2, 3, 4]]
def l33r6 : List AOper :=
  [AOper.mk (some 34) (.load true 3 (.tmp 3)) none [], AOper.mk (some 6) (.alloc [.int .i64 0, .slice none 0 0, .slice none 0 0]) none [], AOper.mk none (.store 3 (.tmp 6) (.tmp 34)) none [1, 0, 0, 1]]
def l33r7 : List AOper :=
  [AOper.mk (some 7) (.mv (.const (.bool false))) none []]
def l33r8 : List AOper :=
  [AOper.mk (some 35) (.mv (.tmp 0)) none [], AOper.mk (some 36) (.call 34 [.tmp 35, .const (.int .i64 6)]) none [0]]
def l33r9 : List AOper :=
  [AOper.mk (some 47) (.bin .eql (.tmp 36) (.const (.int .i64 0))) none [], AOper.mk (some 46) (.mv (.tmp 47)) none [0]]
def l33r10a : List AOper :=
  [AOper.mk (some 49) (.load true 3 (.tmp 3)) none [], AOper.mk (some 50) (.mv (.tmp 5)) none [], AOper.mk (some 51) (.mv (.tmp 0)) none [], AOper.mk (some 52) (.call 49 [.tmp 51]) none [2], AOper.mk (some 53) (.call 48 [.tmp 49, .tmp 50, .tmp 52]) none [0, 1, 3, 3], AOper.mk (some 48) (.mv (.tmp 53)) none [4], AOper.mk (some 54) (.extract (.tmp 48) 0) none [5], AOper.mk (some 55) (.extract (.tmp 48) 1) none [5], AOper.mk none (.store 3 (.tmp 6) (.tmp 54)) none [6, 4, 0, 1, 2, 3, 4, 5, 6]]
def l33r10b : List AOper :=
  [AOper.mk (some 7) (.mv (.tmp 55)) none [7, 8, 0, 1, 2, 3, 4, 5, 6, 7, 8]]
def l33r10 : List AOper := l33r10a ++ l33r10b
def l33r11 : List AOper :=
  [AOper.mk (some 57) (.bin .eql (.tmp 36) (.const (.int .i64 1))) none [], AOper.mk (some 56) (.mv (.tmp 57)) none [0]]
def l33r12 : List AOper :=
  [AOper.mk (some 59) (.load true 3 (.tmp 3)) none [], AOper.mk (some 60) (.mv (.tmp 5)) none [], AOper.mk (some 61) (.call 50 [.tmp 59, .tmp 60]) none [0, 1], AOper.mk (some 58) (.mv (.tmp 61)) none [2], AOper.mk (some 62) (.extract (.tmp 58) 0) none [3], AOper.mk (some 63) (.extract (.tmp 58) 1) none [3], AOper.mk none (.store 3 (.tmp 6) (.tmp 62)) none [4, 2, 0, 1, 2, 3, 4], AOper.mk (some 7) (.mv (.tmp 63)) none [5, 6, 0, 1, 2, 3, 4, 5, 6]]
def l33r13 : List AOper :=
  [AOper.mk (some 65) (.bin .eql (.tmp 36) (.const (.int .i64 2))) none [], AOper.mk (some 64) (.mv (.tmp 65)) none [0]]
def l33r14a : List AOper :=
  [AOper.mk (some 67) (.load true 3 (.tmp 3)) none [], AOper.mk (some 68) (.fld 1 (.tmp 3)) none [], AOper.mk (some 69) (.load false 1 (.tmp 68)) none [1], AOper.mk (some 70) (.len (.tmp 69)) none [2], AOper.mk (some 71) (.call 53 [.tmp 70]) none [3], AOper.mk (some 72) (.call 52 [.tmp 71]) none [4, 4], AOper.mk (some 73) (.call 51 [.tmp 67, .tmp 72]) none [0, 5, 5], AOper.mk (some 66) (.mv (.tmp 73)) none [6], AOper.mk (some 74) (.extract (.tmp 66) 0) none [7], AOper.mk (some 75) (.extract (.tmp 66) 1) none [7], AOper.mk none (.store 3 (.tmp 6) (.tmp 74)) none [8, 6, 0, 1, 2, 3, 4, 5, 6, 7, 8]]
def l33r14b : List AOper :=
  [AOper.mk (some 7) (.mv (.tmp 75)) none [9, 10, 0, 1, 2, 3, 4, 5, 6, 7, 8, 9, 10]]
def l33r14 : List AOper := l33r14a ++ l33r14b
def l33r15 : List AOper :=
  [AOper.mk (some 77) (.bin .eql (.tmp 36) (.const (.int .i64 3))) none [], AOper.mk (some 76) (.mv (.tmp 77)) none [0]]
def l33r16a : List AOper :=
  [AOper.mk (some 79) (.load true 3 (.tmp 3)) none [], AOper.mk (some 80) (.mv (.tmp 5)) none [], AOper.mk (some 81) (.mv (.tmp 0)) none [], AOper.mk (some 82) (.call 34 [.tmp 81, .const (.int .i64 3)]) none [2], AOper.mk (some 83) (.bin .add (.const (.int .i64 1)) (.tmp 82)) none [3], AOper.mk (some 84) (.call 54 [.tmp 79, .tmp 80, .tmp 83]) none [0, 1, 4, 3], AOper.mk (some 78) (.mv (.tmp 84)) none [5], AOper.mk (some 85) (.extract (.tmp 78) 0) none [6], AOper.mk (some 86) (.extract (.tmp 78) 1) none [6], AOper.mk none (.store 3 (.tmp 6) (.tmp 85)) none [7, 5, 0, 1, 2, 3, 4, 5, 6, 7]]
def l33r16b : List AOper :=
  [AOper.mk (some 7) (.mv (.tmp 86)) none [8, 9, 0, 1, 2, 3, 4, 5, 6, 7, 8, 9]]
def l33r16 : List AOper := l33r16a ++ l33r16b
def l33r17 : List AOper :=
  [AOper.mk (some 88) (.bin .eql (.tmp 36) (.const (.int .i64 4))) none [], AOper.mk (some 87) (.mv (.tmp 88)) none [0]]
def l33r18 : List AOper :=
  [AOper.mk (some 90) (.load true 3 (.tmp 3)) none [], AOper.mk (some 91) (.mv (.tmp 5)) none [], AOper.mk (some 92) (.call 55 [.tmp 90, .tmp 91]) none [0, 1], AOper.mk (some 89) (.mv (.tmp 92)) none [2], AOper.mk (some 93) (.extract (.tmp 89) 0) none [3], AOper.mk (some 94) (.extract (.tmp 89) 1) none [3], AOper.mk none (.store 3 (.tmp 6) (.tmp 93)) none [4, 2, 0, 1, 2, 3, 4], AOper.mk (some 7) (.mv (.tmp 94)) none [5, 6, 0, 1, 2, 3, 4, 5, 6]]
def l33r19 : List AOper :=
  [AOper.mk (some 37) (.load true 3 (.tmp 3)) none [], AOper.mk (some 38) (.call 56 [.tmp 37]) none [0], AOper.mk none (.store 3 (.tmp 6) (.tmp 38)) none [1, 1, 0, 1]]
def l33r20a : List AOper :=
  [AOper.mk (some 39) (.fld 2 (.tmp 6)) none [], AOper.mk (some 40) (.load false 1 (.tmp 39)) none [0], AOper.mk (some 41) (.mv (.tmp 5)) none [], AOper.mk (some 42) (.mv (.tmp 0)) none [], AOper.mk (some 43) (.bslice 1 [.int .i64 0] [(0, .const (.int .i64 0)), (1, .const (.int .i64 2)), (2, .const (.int .i64 3)), (3, .const (.int .i64 1)), (4, .const (.int .i64 (-1))), (5, .const (.int .i64 5))] 6) none [], AOper.mk (some 44) (.call 35 [.tmp 42, .tmp 43]) none [3, 4]]
def l33r20b : List AOper :=
  [AOper.mk (some 45) (.idxA 1 (.tmp 40) (.tmp 41)) none [1, 2, 0, 1, 2, 3, 4, 5], AOper.mk none (.store 1 (.tmp 45) (.tmp 44)) none [6, 5, 5, 0, 1, 2, 3, 4, 5]]
def l33r20 : List AOper := l33r20a ++ l33r20b
def l33r21 : List AOper :=
  [AOper.mk (some 7) (.mv (.const (.bool true))) none []]
def l33r22 : List AOper :=
  [AOper.mk (some 95) (.mv (.tmp 7)) none [], AOper.mk (some 96) (.mv (.tmp 95)) none [0], AOper.mk (some 97) (.load true 3 (.tmp 6)) (some (96, true)) [1], AOper.mk (some 98) (.call 22 [.tmp 97]) (some (96, true)) [2, 1, 1], AOper.mk (some 99) (.pick (.tmp 96) (.tmp 98) (.const (.bool false))) none [1, 3]]
def l33r23 : List AOper :=
  [AOper.mk (some 100) (.load true 3 (.tmp 6)) none [], AOper.mk none (.store 3 (.tmp 3) (.tmp 100)) none [0, 0]]
def l33r24 : List AOper :=
  [AOper.mk (some 27) (.mv (.tmp 4)) none [], AOper.mk (some 28) (.bin .sub (.tmp 27) (.const (.int .i64 1))) none [0], AOper.mk (some 4) (.mv (.tmp 28)) none [1, 0, 1]]
def l33r25 : List AOper :=
  [AOper.mk (some 101) (.load true 3 (.tmp 3)) none [], AOper.mk (some 102) (.call 22 [.tmp 101]) none [0], AOper.mk (some 103) (.un .not (.tmp 102)) none [1]]
def l33r26 : List AOper :=
  [AOper.mk (some 104) (.fld 0 (.tmp 3)) none [], AOper.mk none (.store 1 (.tmp 104) (.const (.int .i64 0))) none [0]]
def l33r27 : List AOper :=
  [AOper.mk (some 105) (.load true 3 (.tmp 3)) none [], AOper.mk none (.store 3 (.tmp 2) (.tmp 105)) none [0, 0]]
def l33 : AFn :=
  (AFn.mk 106 1 (ACode.seq (ACode.reg l33r0) (ACode.seq (ACode.reg l33r1) (ACode.seq (ACode.reg l33r2) (ACode.seq (ACode.seq (ACode.reg l33r3) (ACode.block 0 (ACode.loop (ACode.seq (ACode.seq (ACode.reg l33r4) (ACode.cond (.tmp 26) ACode.skip (ACode.exit 0))) (ACode.seq (ACode.block 1 (ACode.seq (ACode.reg l33r5) (ACode.seq (ACode.reg l33r6) (ACode.seq (ACode.reg l33r7) (ACode.seq (ACode.seq (ACode.reg l33r8) (ACode.block 2 (ACode.seq (ACode.reg l33r9) (ACode.cond (.tmp 46) (ACode.draw l33r10) (ACode.seq (ACode.reg l33r11) (ACode.cond (.tmp 56) (ACode.reg l33r12) (ACode.seq (ACode.reg l33r13) (ACode.cond (.tmp 64) (ACode.draw l33r14) (ACode.seq (ACode.reg l33r15) (ACode.cond (.tmp 76) (ACode.draw l33r16) (ACode.seq (ACode.reg l33r17) (ACode.cond (.tmp 87) (ACode.reg l33r18) (ACode.seq (ACode.reg l33r19) (ACode.seq (ACode.draw l33r20) (ACode.reg l33r21))))))))))))))) (ACode.seq (ACode.reg l33r22) (ACode.cond (.tmp 99) (ACode.reg l33r23) ACode.skip))))))) (ACode.reg l33r24)))))) (ACode.seq (ACode.seq (ACode.reg l33r25) (ACode.cond (.tmp 103) (ACode.reg l33r26) ACode.skip)) (ACode.seq (ACode.reg l33r27) ACode.ret)))))) [ARes.cell 2 true 3])
theorem l33_eq : lowFn Try.prog 33 = some l33 := by kernel_rfl
def l34r0 : List AOper :=
  [AOper.mk (some 4) (.mv (.const (.int .i64 0))) none []]
def l34r1 : List AOper :=
  [AOper.mk (some 7) (.mv (.tmp 0)) none [], AOper.mk (some 8) (.mv (.tmp 0)) none [], AOper.mk (some 9) (.nilck (.tmp 8)) none [1], AOper.mk (some 10) (.fld 1 (.tmp 9)) none [2], AOper.mk (some 11) (.load false 1 (.tmp 10)) none [3], AOper.mk (some 12) (.bin .add (.tmp 11) (.const (.int .i64 1))) none [4], AOper.mk (some 13) (.nilck (.tmp 7)) none [0, 0, 1, 2, 3, 4, 5], AOper.mk (some 14) (.fld 1 (.tmp 13)) none [6, 0, 1, 2, 3, 4, 5], AOper.mk none (.store 1 (.tmp 14) (.tmp 12)) none [7, 5, 0, 1, 2, 3, 4, 5]]
def l34r2 : List AOper :=
  [AOper.mk (some 15) (.mv (.tmp 1)) none [], AOper.mk (some 16) (.bin .lss (.tmp 15) (.const (.int .i64 1))) none [0], AOper.mk (some 17) (.mv (.tmp 16)) none [1], AOper.mk (some 18) (.mv (.tmp 0)) (some (17, false)) [2], AOper.mk (some 19) (.nilck (.tmp 18)) (some (17, false)) [3, 2], AOper.mk (some 20) (.fld 0 (.tmp 19)) (some (17, false)) [4, 2], AOper.mk (some 21) (.load false 1 (.tmp 20)) (some (17, false)) [5, 2], AOper.mk (some 22) (.len (.tmp 21)) (some (17, false)) [6, 2], AOper.mk (some 23) (.bin .eql (.tmp 22) (.const (.int .i64 0))) (some (17, false)) [7, 2], AOper.mk (some 24) (.pick (.tmp 17) (.const (.bool true)) (.tmp 23)) none [2, 8]]
def l34r3 : List AOper :=
  [AOper.mk (some 4) (.mv (.const (.int .i64 0))) none []]
def l34r4 : List AOper :=
  [AOper.mk (some 25) (.mv (.tmp 0)) none [], AOper.mk (some 26) (.nilck (.tmp 25)) none [0], AOper.mk (some 27) (.fld 1 (.tmp 26)) none [1], AOper.mk (some 28) (.load false 1 (.tmp 27)) none [2], AOper.mk (some 29) (.bin .sub (.tmp 28) (.const (.int .i64 1))) none [3], AOper.mk (some 5) (.mv (.tmp 29)) none [4, 0, 1, 2, 3, 4]]
def l34r5 : List AOper :=
  [AOper.mk (some 30) (.mv (.tmp 5)) none [], AOper.mk (some 31) (.mv (.tmp 0)) none [], AOper.mk (some 32) (.nilck (.tmp 31)) none [1], AOper.mk (some 33) (.fld 0 (.tmp 32)) none [2], AOper.mk (some 34) (.load false 1 (.tmp 33)) none [3], AOper.mk (some 35) (.len (.tmp 34)) none [4], AOper.mk (some 36) (.bin .lss (.tmp 30) (.tmp 35)) none [0, 5]]
def l34r6 : List AOper :=
  [AOper.mk (some 37) (.mv (.tmp 0)) none [], AOper.mk (some 38) (.nilck (.tmp 37)) none [0], AOper.mk (some 39) (.fld 0 (.tmp 38)) none [1], AOper.mk (some 40) (.load false 1 (.tmp 39)) none [2], AOper.mk (some 41) (.mv (.tmp 5)) none [], AOper.mk (some 42) (.idxA 1 (.tmp 40) (.tmp 41)) none [3, 4], AOper.mk (some 43) (.load false 1 (.tmp 42)) none [5], AOper.mk (some 44) (.conv .i64 (.tmp 43)) none [6], AOper.mk (some 45) (.mv (.tmp 1)) none [], AOper.mk (some 46) (.bin .rem (.tmp 44) (.tmp 45)) none [7, 8], AOper.mk (some 4) (.mv (.tmp 46)) none [9, 0, 1, 2, 3, 4, 5, 6, 7, 8, 9]]
def l34r7a : List AOper :=
  [AOper.mk (some 47) (.mv (.tmp 0)) none [], AOper.mk (some 48) (.nilck (.tmp 47)) none [0], AOper.mk (some 49) (.fld 0 (.tmp 48)) none [1], AOper.mk (some 50) (.load false 1 (.tmp 49)) none [2], AOper.mk (some 51) (.mv (.tmp 5)) none [], AOper.mk (some 52) (.mv (.tmp 0)) none [], AOper.mk (some 53) (.nilck (.tmp 52)) none [5], AOper.mk (some 54) (.fld 0 (.tmp 53)) none [6], AOper.mk (some 55) (.load false 1 (.tmp 54)) none [7], AOper.mk (some 56) (.len (.tmp 55)) none [8], AOper.mk (some 57) (.bin .rem (.tmp 51) (.tmp 56)) none [4, 9], AOper.mk (some 58) (.idxA 1 (.tmp 50) (.tmp 57)) none [3, 10], AOper.mk (some 59) (.load false 1 (.tmp 58)) none [11], AOper.mk (some 60) (.conv .i64 (.tmp 59)) none [12], AOper.mk (some 61) (.bin .mul (.tmp 60) (.const (.int .i64 131))) none [13], AOper.mk (some 62) (.mv (.tmp 0)) none [], AOper.mk (some 63) (.nilck (.tmp 62)) none [15], AOper.mk (some 64) (.fld 0 (.tmp 63)) none [16], AOper.mk (some 65) (.load false 1 (.tmp 64)) none [17], AOper.mk (some 66) (.mv (.tmp 5)) none [], AOper.mk (some 67) (.bin .mul (.tmp 66) (.const (.int .i64 7))) none [19], AOper.mk (some 68) (.bin .add (.tmp 67) (.const (.int .i64 3))) none [20], AOper.mk (some 69) (.mv (.tmp 0)) none [], AOper.mk (some 70) (.nilck (.tmp 69)) none [22], AOper.mk (some 71) (.fld 0 (.tmp 70)) none [23], AOper.mk (some 72) (.load false 1 (.tmp 71)) none [24], AOper.mk (some 73) (.len (.tmp 72)) none [25], AOper.mk (some 74) (.bin .rem (.tmp 68) (.tmp 73)) none [21, 26], AOper.mk (some 75) (.idxA 1 (.tmp 65) (.tmp 74)) none [18, 27], AOper.mk (some 76) (.load false 1 (.tmp 75)) none [28], AOper.mk (some 77) (.conv .i64 (.tmp 76)) none [29], AOper.mk (some 78) (.bin .mul (.tmp 77) (.const (.int .i64 1117))) none [30], AOper.mk (some 79) (.bin .add (.tmp 61) (.tmp 78)) none [14, 31], AOper.mk (some 80) (.mv (.tmp 5)) none [], AOper.mk (some 81) (.bin .mul (.tmp 80) (.const (.int .i64 29))) none [33], AOper.mk (some 82) (.bin .add (.tmp 79) (.tmp 81)) none [32, 34], AOper.mk (some 83) (.mv (.tmp 5)) none [], AOper.mk (some 84) (.mv (.tmp 0)) none [], AOper.mk (some 85) (.nilck (.tmp 84)) none [37], AOper.mk (some 86) (.fld 0 (.tmp 85)) none [38], AOper.mk (some 87) (.load false 1 (.tmp 86)) none [39], AOper.mk (some 88) (.len (.tmp 87)) none [40], AOper.mk (some 89) (.bin .quo (.tmp 83) (.tmp 88)) none [36, 41], AOper.mk (some 90) (.bin .mul (.tmp 89) (.const (.int .i64 53))) none [42]]
def l34r7b : List AOper :=
  [AOper.mk (some 91) (.bin .add (.tmp 82) (.tmp 90)) none [35, 43], AOper.mk (some 6) (.mv (.tmp 91)) none [44, 0, 1, 2, 3, 4, 5, 6, 7, 8, 9, 10, 11, 12, 13, 14, 15, 16, 17, 18, 19, 20, 21, 22, 23, 24, 25, 26, 27, 28, 29, 30, 31, 32, 33, 34, 35, 36, 37, 38, 39, 40, 41, 42, 43, 44]]
def l34r7 : List AOper := l34r7a ++ l34r7b
def l34r8 : List AOper :=
  [AOper.mk (some 92) (.mv (.tmp 6)) none [], AOper.mk (some 93) (.mv (.tmp 6)) none [], AOper.mk (some 94) (.bin .quo (.tmp 93) (.const (.int .i64 64))) none [1], AOper.mk (some 95) (.bin .xor (.tmp 92) (.tmp 94)) none [0, 2], AOper.mk (some 6) (.mv (.tmp 95)) none [3, 0, 1, 2, 3]]
def l34r9 : List AOper :=
  [AOper.mk (some 96) (.mv (.tmp 6)) none [], AOper.mk (some 97) (.mv (.tmp 1)) none [], AOper.mk (some 98) (.bin .rem (.tmp 96) (.tmp 97)) none [0, 1], AOper.mk (some 4) (.mv (.tmp 98)) none [2, 0, 1, 2]]
def l34 : AFn :=
  (AFn.mk 99 2 (ACode.seq (ACode.reg l34r0) (ACode.seq (ACode.reg l34r1) (ACode.seq (ACode.seq (ACode.reg l34r2) (ACode.cond (.tmp 24) (ACode.seq (ACode.reg l34r3) ACode.ret) ACode.skip)) (ACode.seq (ACode.reg l34r4) (ACode.seq (ACode.seq (ACode.reg l34r5) (ACode.cond (.tmp 36) (ACode.seq (ACode.reg l34r6) ACode.ret) ACode.skip)) (ACode.seq (ACode.draw l34r7) (ACode.seq (ACode.reg l34r8) (ACode.seq (ACode.reg l34r9) ACode.ret)))))))) [ARes.tmp 4])
theorem l34_eq : lowFn Try.prog 34 = some l34 := by kernel_rfl
def l35r0 : List AOper :=
  [AOper.mk (some 4) (.mv (.const (.int .i64 0))) none []]
def l35r1 : List AOper :=
  [AOper.mk (some 5) (.mv (.tmp 1)) none [], AOper.mk (some 6) (.mv (.tmp 0)) none [], AOper.mk (some 7) (.mv (.tmp 1)) none [], AOper.mk (some 8) (.len (.tmp 7)) none [2], AOper.mk (some 9) (.call 34 [.tmp 6, .tmp 8]) none [1, 3], AOper.mk (some 10) (.idxA 1 (.tmp 5) (.tmp 9)) none [0, 4], AOper.mk (some 11) (.load false 1 (.tmp 10)) none [5], AOper.mk (some 4) (.mv (.tmp 11)) none [6, 4, 0, 1, 2, 3, 4, 5, 6]]
def l35 : AFn :=
  (AFn.mk 12 2 (ACode.seq (ACode.reg l35r0) (ACode.seq (ACode.reg l35r1) ACode.ret)) [ARes.tmp 4])
theorem l35_eq : lowFn Try.prog 35 = some l35 := by kernel_rfl
def l36r0 : List AOper :=
  [AOper.mk (some 4) (.mv (.const (.int .i64 0))) none []]
def l36r1 : List AOper :=
  [AOper.mk (some 6) (.mv (.tmp 0)) none [], AOper.mk (some 7) (.len (.tmp 6)) none [0], AOper.mk (some 8) (.mv (.const (.int .i64 0))) none []]
def l36r2 : List AOper :=
  [AOper.mk (some 9) (.bin .lss (.tmp 8) (.tmp 7)) none []]
def l36r3 : List AOper :=
  [AOper.mk (some 10) (.mv (.tmp 8)) none [], AOper.mk (some 5) (.mv (.tmp 10)) none [0, 0]]
def l36r4 : List AOper :=
  [AOper.mk (some 11) (.mv (.tmp 1)) none [], AOper.mk (some 12) (.mv (.tmp 0)) none [], AOper.mk (some 13) (.mv (.tmp 5)) none [], AOper.mk (some 14) (.idxA 2 (.tmp 12) (.tmp 13)) none [1, 2], AOper.mk (some 15) (.load true 2 (.tmp 14)) none [3], AOper.mk (some 16) (.raw (Op.call (Call.mk (Callee.value (.tmp 11)) (Array.mk [.tmp 15]) (Array.mk [47])))) none [0, 4]]
def l36r5 : List AOper :=
  [AOper.mk (some 17) (.mv (.tmp 5)) none [], AOper.mk (some 4) (.mv (.tmp 17)) none [0, 0]]
def l36r6 : List AOper :=
  [AOper.mk (some 18) (.bin .add (.tmp 8) (.const (.int .i64 1))) none [], AOper.mk (some 8) (.mv (.tmp 18)) none [0]]
def l36r7 : List AOper :=
  [AOper.mk (some 4) (.mv (.const (.int .i64 (-1)))) none []]
def l36 : AFn :=
  (AFn.mk 19 2 (ACode.seq (ACode.reg l36r0) (ACode.seq (ACode.seq (ACode.reg l36r1) (ACode.block 0 (ACode.loop (ACode.seq (ACode.reg l36r2) (ACode.seq (ACode.cond (.tmp 9) ACode.skip (ACode.exit 0)) (ACode.seq (ACode.block 1 (ACode.seq (ACode.reg l36r3) (ACode.seq (ACode.reg l36r4) (ACode.cond (.tmp 16) (ACode.seq (ACode.reg l36r5) ACode.ret) ACode.skip)))) (ACode.reg l36r6))))))) (ACode.seq (ACode.reg l36r7) ACode.ret))) [ARes.tmp 4])
theorem l36_eq : lowFn Try.prog 36 = some l36 := by kernel_rfl
def l37r0 : List AOper :=
  [AOper.mk (some 2) (.box (.tmp 0)) none [], AOper.mk (some 3) (.box (.tmp 1)) none [], AOper.mk (some 4) (.mv (.const (.int .i64 0))) none []]
def l37r1a : List AOper :=
  [AOper.mk (some 5) (.fld 0 (.tmp 2)) none [], AOper.mk (some 6) (.load false 1 (.tmp 5)) none [0], AOper.mk (some 7) (.load true 4 (.tmp 3)) none [], AOper.mk (some 8) (.fld 2 (.tmp 2)) none [], AOper.mk (some 9) (.load false 1 (.tmp 8)) none [3], AOper.mk (some 10) (.call 57 [.tmp 7, .tmp 9]) none [2, 4]]
def l37r1b : List AOper :=
  [AOper.mk (some 11) (.bin .add (.tmp 6) (.tmp 10)) none [1, 5], AOper.mk (some 4) (.mv (.tmp 11)) none [6, 5, 0, 1, 2, 3, 4, 5, 6]]
def l37r1 : List AOper := l37r1a ++ l37r1b
def l37 : AFn :=
  (AFn.mk 12 2 (ACode.seq (ACode.reg l37r0) (ACode.seq (ACode.draw l37r1) ACode.ret)) [ARes.tmp 4])
theorem l37_eq : lowFn Try.prog 37 = some l37 := by kernel_rfl
def l38r0 : List AOper :=
  [AOper.mk (some 2) (.mv (.const (.bool false))) none []]
def l38r1 : List AOper :=
  [AOper.mk (some 3) (.mv (.tmp 0)) none [], AOper.mk (some 4) (.len (.tmp 3)) none [0], AOper.mk (some 5) (.bin .leq (.tmp 4) (.const (.int .i64 4))) none [1], AOper.mk (some 6) (.mv (.tmp 5)) none [2], AOper.mk (some 7) (.mv (.tmp 0)) (some (6, true)) [3], AOper.mk (some 8) (.call 39 [.tmp 7, .const (.int .i64 0), .const (.int .i64 60)]) (some (6, true)) [4, 3, 3], AOper.mk (some 9) (.pick (.tmp 6) (.tmp 8) (.const (.bool false))) none [3, 5], AOper.mk (some 10) (.mv (.tmp 9)) none [6, 5], AOper.mk (some 11) (.mv (.tmp 0)) (some (10, true)) [7], AOper.mk (some 12) (.call 41 [.tmp 11]) (some (10, true)) [8, 7, 7], AOper.mk (some 13) (.bin .leq (.tmp 12) (.const (.int .i64 60))) (some (10, true)) [9, 7], AOper.mk (some 14) (.pick (.tmp 10) (.tmp 13) (.const (.bool false))) none [7, 10], AOper.mk (some 2) (.mv (.tmp 14)) none [11, 9, 0, 1, 2, 3, 4, 5, 6, 7, 8, 9, 10, 11]]
def l38 : AFn :=
  (AFn.mk 15 1 (ACode.seq (ACode.reg l38r0) (ACode.seq (ACode.reg l38r1) ACode.ret)) [ARes.tmp 2])
theorem l38_eq : lowFn Try.prog 38 = some l38 := by kernel_rfl
def l39r0 : List AOper :=
  [AOper.mk (some 6) (.mv (.const (.bool false))) none []]
def l39r1 : List AOper :=
  [AOper.mk (some 7) (.mv (.const (.int .i64 0))) none []]
def l39r2 : List AOper :=
  [AOper.mk (some 8) (.mv (.tmp 7)) none [], AOper.mk (some 9) (.mv (.tmp 0)) none [], AOper.mk (some 10) (.len (.tmp 9)) none [1], AOper.mk (some 11) (.bin .lss (.tmp 8) (.tmp 10)) none [0, 2]]
def l39r3 : List AOper :=
  [AOper.mk (some 14) (.mv (.tmp 0)) none [], AOper.mk (some 15) (.mv (.tmp 7)) none [], AOper.mk (some 16) (.idxA 1 (.tmp 14) (.tmp 15)) none [0, 1], AOper.mk (some 17) (.load false 1 (.tmp 16)) none [2], AOper.mk (some 18) (.mv (.tmp 1)) none [], AOper.mk (some 19) (.mv (.tmp 2)) none [], AOper.mk (some 20) (.call 40 [.tmp 17, .tmp 18, .tmp 19]) none [3, 4, 5], AOper.mk (some 21) (.un .not (.tmp 20)) none [6]]
def l39r4 : List AOper :=
  [AOper.mk (some 6) (.mv (.const (.bool false))) none []]
def l39r5 : List AOper :=
  [AOper.mk (some 12) (.mv (.tmp 7)) none [], AOper.mk (some 13) (.bin .add (.tmp 12) (.const (.int .i64 1))) none [0], AOper.mk (some 7) (.mv (.tmp 13)) none [1, 0, 1]]
def l39r6 : List AOper :=
  [AOper.mk (some 6) (.mv (.const (.bool true))) none []]
def l39 : AFn :=
  (AFn.mk 22 3 (ACode.seq (ACode.reg l39r0) (ACode.seq (ACode.seq (ACode.reg l39r1) (ACode.block 0 (ACode.loop (ACode.seq (ACode.seq (ACode.reg l39r2) (ACode.cond (.tmp 11) ACode.skip (ACode.exit 0))) (ACode.seq (ACode.block 1 (ACode.seq (ACode.reg l39r3) (ACode.cond (.tmp 21) (ACode.seq (ACode.reg l39r4) ACode.ret) ACode.skip))) (ACode.reg l39r5)))))) (ACode.seq (ACode.reg l39r6) ACode.ret))) [ARes.tmp 6])
theorem l39_eq : lowFn Try.prog 39 = some l39 := by kernel_rfl
def l40r0 : List AOper :=
  [AOper.mk (some 6) (.mv (.const (.bool false))) none []]
def l40r1 : List AOper :=
  [AOper.mk (some 7) (.mv (.tmp 1)) none [], AOper.mk (some 8) (.mv (.tmp 0)) none [], AOper.mk (some 9) (.bin .leq (.tmp 7) (.tmp 8)) none [0, 1], AOper.mk (some 10) (.mv (.tmp 9)) none [2], AOper.mk (some 11) (.mv (.tmp 0)) (some (10, true)) [3], AOper.mk (some 12) (.mv (.tmp 2)) (some (10, true)) [3], AOper.mk (some 13) (.bin .leq (.tmp 11) (.tmp 12)) (some (10, true)) [4, 5, 3], AOper.mk (some 14) (.pick (.tmp 10) (.tmp 13) (.const (.bool false))) none [3, 6], AOper.mk (some 6) (.mv (.tmp 14)) none [7, 3, 0, 1, 2, 3, 4, 5, 6, 7]]
def l40 : AFn :=
  (AFn.mk 15 3 (ACode.seq (ACode.reg l40r0) (ACode.seq (ACode.reg l40r1) ACode.ret)) [ARes.tmp 6])
theorem l40_eq : lowFn Try.prog 40 = some l40 := by kernel_rfl
def l41r0 : List AOper :=
  [AOper.mk (some 2) (.mv (.const (.int .i64 0))) none []]
def l41r1 : List AOper :=
  [AOper.mk (some 3) (.mv (.const (.int .i64 1))) none []]
def l41r2 : List AOper :=
  [AOper.mk (some 4) (.mv (.const (.int .i64 0))) none []]
def l41r3 : List AOper :=
  [AOper.mk (some 5) (.mv (.tmp 4)) none [], AOper.mk (some 6) (.mv (.tmp 0)) none [], AOper.mk (some 7) (.len (.tmp 6)) none [1], AOper.mk (some 8) (.bin .lss (.tmp 5) (.tmp 7)) none [0, 2]]
def l41r4 : List AOper :=
  [AOper.mk (some 11) (.mv (.tmp 3)) none [], AOper.mk (some 12) (.mv (.tmp 0)) none [], AOper.mk (some 13) (.mv (.tmp 4)) none [], AOper.mk (some 14) (.idxA 1 (.tmp 12) (.tmp 13)) none [1, 2], AOper.mk (some 15) (.load false 1 (.tmp 14)) none [3], AOper.mk (some 16) (.bin .mul (.tmp 11) (.tmp 15)) none [0, 4], AOper.mk (some 3) (.mv (.tmp 16)) none [5, 0, 1, 2, 3, 4, 5]]
def l41r5 : List AOper :=
  [AOper.mk (some 9) (.mv (.tmp 4)) none [], AOper.mk (some 10) (.bin .add (.tmp 9) (.const (.int .i64 1))) none [0], AOper.mk (some 4) (.mv (.tmp 10)) none [1, 0, 1]]
def l41r6 : List AOper :=
  [AOper.mk (some 17) (.mv (.tmp 3)) none [], AOper.mk (some 2) (.mv (.tmp 17)) none [0, 0]]
def l41 : AFn :=
  (AFn.mk 18 1 (ACode.seq (ACode.reg l41r0) (ACode.seq (ACode.reg l41r1) (ACode.seq (ACode.seq (ACode.reg l41r2) (ACode.block 0 (ACode.loop (ACode.seq (ACode.seq (ACode.reg l41r3) (ACode.cond (.tmp 8) ACode.skip (ACode.exit 0))) (ACode.seq (ACode.block 1 (ACode.reg l41r4)) (ACode.reg l41r5)))))) (ACode.seq (ACode.reg l41r6) ACode.ret)))) [ARes.tmp 2])
theorem l41_eq : lowFn Try.prog 41 = some l41 := by kernel_rfl
def l42r0 : List AOper :=
  [AOper.mk (some 1) (.box (.tmp 0)) none [], AOper.mk (some 2) (.mv (.const (.slice none 0 0))) none []]
def l42r1 : List AOper :=
  [AOper.mk (some 5) (.bslice 1 [.int .i64 0] [] 0) none [], AOper.mk (some 3) (.mv (.tmp 5)) none [0, 0]]
def l42r2 : List AOper :=
  [AOper.mk (some 4) (.mv (.const (.int .i64 0))) none []]
def l42r3 : List AOper :=
  [AOper.mk (some 6) (.mv (.tmp 4)) none [], AOper.mk (some 7) (.fld 1 (.tmp 1)) none [], AOper.mk (some 8) (.load false 1 (.tmp 7)) none [1], AOper.mk (some 9) (.call 41 [.tmp 8]) none [2], AOper.mk (some 10) (.bin .lss (.tmp 6) (.tmp 9)) none [0, 3]]
def l42r4a : List AOper :=
  [AOper.mk (some 13) (.mv (.tmp 3)) none [], AOper.mk (some 14) (.load true 3 (.tmp 1)) none [], AOper.mk (some 15) (.fld 1 (.tmp 1)) none [], AOper.mk (some 16) (.load false 1 (.tmp 15)) none [2], AOper.mk (some 17) (.mv (.tmp 4)) none [], AOper.mk (some 18) (.call 59 [.tmp 16, .tmp 17]) none [3, 4], AOper.mk (some 19) (.call 58 [.tmp 14, .tmp 18]) none [1, 5, 5], AOper.mk (some 20) (.bslice 1 [.int .i64 0] [(0, .tmp 19)] 1) none [6]]
def l42r4b : List AOper :=
  [AOper.mk (some 21) (.append 1 (.tmp 13) (.tmp 20)) none [0, 7, 6], AOper.mk (some 3) (.mv (.tmp 21)) none [8, 8, 0, 1, 2, 3, 4, 5, 6, 7, 8]]
def l42r4 : List AOper := l42r4a ++ l42r4b
def l42r5 : List AOper :=
  [AOper.mk (some 11) (.mv (.tmp 4)) none [], AOper.mk (some 12) (.bin .add (.tmp 11) (.const (.int .i64 1))) none [0], AOper.mk (some 4) (.mv (.tmp 12)) none [1, 0, 1]]
def l42r6 : List AOper :=
  [AOper.mk (some 22) (.mv (.tmp 3)) none [], AOper.mk (some 2) (.mv (.tmp 22)) none [0, 0]]
def l42 : AFn :=
  (AFn.mk 23 1 (ACode.seq (ACode.reg l42r0) (ACode.seq (ACode.reg l42r1) (ACode.seq (ACode.seq (ACode.reg l42r2) (ACode.block 0 (ACode.loop (ACode.seq (ACode.seq (ACode.reg l42r3) (ACode.cond (.tmp 10) ACode.skip (ACode.exit 0))) (ACode.seq (ACode.block 1 (ACode.draw l42r4)) (ACode.reg l42r5)))))) (ACode.seq (ACode.reg l42r6) ACode.ret)))) [ARes.tmp 2])
theorem l42_eq : lowFn Try.prog 42 = some l42 := by kernel_rfl
def l43r0 : List AOper :=
  [AOper.mk (some 2) (.mv (.const (.int .i64 0))) none []]
def l43r1 : List AOper :=
  [AOper.mk (some 3) (.mv (.const (.int .i64 1))) none []]
def l43r2 : List AOper :=
  [AOper.mk (some 6) (.mv (.tmp 0)) none [], AOper.mk (some 7) (.len (.tmp 6)) none [0], AOper.mk (some 8) (.mv (.const (.int .i64 0))) none []]
def l43r3 : List AOper :=
  [AOper.mk (some 9) (.bin .lss (.tmp 8) (.tmp 7)) none []]
def l43r4 : List AOper :=
  [AOper.mk (some 10) (.idxA 1 (.tmp 6) (.tmp 8)) none [], AOper.mk (some 11) (.load false 1 (.tmp 10)) none [0], AOper.mk (some 5) (.mv (.tmp 11)) none [1, 0, 1]]
def l43r5 : List AOper :=
  [AOper.mk (some 12) (.mv (.tmp 3)) none [], AOper.mk (some 13) (.mv (.tmp 5)) none [], AOper.mk (some 14) (.bin .mul (.tmp 12) (.tmp 13)) none [0, 1], AOper.mk (some 3) (.mv (.tmp 14)) none [2, 0, 1, 2]]
def l43r6 : List AOper :=
  [AOper.mk (some 15) (.bin .add (.tmp 8) (.const (.int .i64 1))) none [], AOper.mk (some 8) (.mv (.tmp 15)) none [0]]
def l43r7 : List AOper :=
  [AOper.mk (some 16) (.mv (.tmp 3)) none [], AOper.mk (some 2) (.mv (.tmp 16)) none [0, 0]]
def l43 : AFn :=
  (AFn.mk 17 1 (ACode.seq (ACode.reg l43r0) (ACode.seq (ACode.reg l43r1) (ACode.seq (ACode.seq (ACode.reg l43r2) (ACode.block 0 (ACode.loop (ACode.seq (ACode.reg l43r3) (ACode.seq (ACode.cond (.tmp 9) ACode.skip (ACode.exit 0)) (ACode.seq (ACode.block 1 (ACode.seq (ACode.reg l43r4) (ACode.reg l43r5))) (ACode.reg l43r6))))))) (ACode.seq (ACode.reg l43r7) ACode.ret)))) [ARes.tmp 2])
theorem l43_eq : lowFn Try.prog 43 = some l43 := by kernel_rfl
def l44r0 : List AOper :=
  [AOper.mk (some 4) (.mv (.const (.bool false))) none []]
def l44r1 : List AOper :=
  [AOper.mk (some 5) (.mv (.tmp 1)) none [], AOper.mk (some 6) (.un .neg (.tmp 5)) none [0], AOper.mk (some 7) (.mv (.tmp 0)) none [], AOper.mk (some 8) (.bin .leq (.tmp 6) (.tmp 7)) none [1, 2], AOper.mk (some 9) (.mv (.tmp 8)) none [3], AOper.mk (some 10) (.mv (.tmp 0)) (some (9, true)) [4], AOper.mk (some 11) (.mv (.tmp 1)) (some (9, true)) [4], AOper.mk (some 12) (.bin .leq (.tmp 10) (.tmp 11)) (some (9, true)) [5, 6, 4], AOper.mk (some 13) (.pick (.tmp 9) (.tmp 12) (.const (.bool false))) none [4, 7], AOper.mk (some 4) (.mv (.tmp 13)) none [8, 4, 0, 1, 2, 3, 4, 5, 6, 7, 8]]
def l44 : AFn :=
  (AFn.mk 14 2 (ACode.seq (ACode.reg l44r0) (ACode.seq (ACode.reg l44r1) ACode.ret)) [ARes.tmp 4])
theorem l44_eq : lowFn Try.prog 44 = some l44 := by kernel_rfl
def l45r0 : List AOper :=
  [AOper.mk (some 4) (.alloc [.int .i64 0, .int .i64 0, .int .i64 0, .int .i64 0]) none []]
def l45r1 : List AOper :=
  [AOper.mk (some 5) (.alloc [.int .i64 0, .int .i64 0, .int .i64 0, .int .i64 0]) none []]
def l45r2 : List AOper :=
  [AOper.mk (some 7) (.mv (.tmp 0)) none [], AOper.mk (some 8) (.len (.tmp 7)) none [0], AOper.mk (some 9) (.bin .sub (.tmp 8) (.const (.int .i64 1))) none [1], AOper.mk (some 6) (.mv (.tmp 9)) none [2, 0, 1, 2]]
def l45r3 : List AOper :=
  [AOper.mk (some 10) (.mv (.tmp 6)) none [], AOper.mk (some 11) (.bin .geq (.tmp 10) (.const (.int .i64 0))) none [0]]
def l45r4 : List AOper :=
  [AOper.mk (some 14) (.mv (.tmp 6)) none [], AOper.mk (some 15) (.mv (.tmp 1)) none [], AOper.mk (some 16) (.mv (.tmp 0)) none [], AOper.mk (some 17) (.mv (.tmp 6)) none [], AOper.mk (some 18) (.idxA 1 (.tmp 16) (.tmp 17)) none [2, 3], AOper.mk (some 19) (.load false 1 (.tmp 18)) none [4], AOper.mk (some 20) (.bin .rem (.tmp 15) (.tmp 19)) none [1, 5], AOper.mk (some 21) (.idxP 1 4 (.tmp 5) (.tmp 14)) none [0, 0, 1, 2, 3, 4, 5, 6], AOper.mk none (.store 1 (.tmp 21) (.tmp 20)) none [7, 6, 0, 1, 2, 3, 4, 5, 6]]
def l45r5 : List AOper :=
  [AOper.mk (some 22) (.mv (.tmp 1)) none [], AOper.mk (some 23) (.mv (.tmp 0)) none [], AOper.mk (some 24) (.mv (.tmp 6)) none [], AOper.mk (some 25) (.idxA 1 (.tmp 23) (.tmp 24)) none [1, 2], AOper.mk (some 26) (.load false 1 (.tmp 25)) none [3], AOper.mk (some 27) (.bin .quo (.tmp 22) (.tmp 26)) none [0, 4], AOper.mk (some 1) (.mv (.tmp 27)) none [5, 0, 1, 2, 3, 4, 5]]
def l45r6 : List AOper :=
  [AOper.mk (some 12) (.mv (.tmp 6)) none [], AOper.mk (some 13) (.bin .sub (.tmp 12) (.const (.int .i64 1))) none [0], AOper.mk (some 6) (.mv (.tmp 13)) none [1, 0, 1]]
def l45r7 : List AOper :=
  [AOper.mk (some 28) (.load true 4 (.tmp 5)) none [], AOper.mk none (.store 4 (.tmp 4) (.tmp 28)) none [0, 0]]
def l45 : AFn :=
  (AFn.mk 29 2 (ACode.seq (ACode.reg l45r0) (ACode.seq (ACode.reg l45r1) (ACode.seq (ACode.seq (ACode.reg l45r2) (ACode.block 0 (ACode.loop (ACode.seq (ACode.seq (ACode.reg l45r3) (ACode.cond (.tmp 11) ACode.skip (ACode.exit 0))) (ACode.seq (ACode.block 1 (ACode.seq (ACode.reg l45r4) (ACode.reg l45r5))) (ACode.reg l45r6)))))) (ACode.seq (ACode.reg l45r7) ACode.ret)))) [ARes.cell 4 true 4])
theorem l45_eq : lowFn Try.prog 45 = some l45 := by kernel_rfl
def l46r0 : List AOper :=
  [AOper.mk (some 2) (.alloc [.int .i64 0, .slice none 0 0, .slice none 0 0]) none []]
def l46r1 : List AOper :=
  [AOper.mk (some 3) (.mv (.tmp 0)) none [], AOper.mk (some 4) (.call 38 [.tmp 3]) none [0], AOper.mk (some 5) (.un .not (.tmp 4)) none [1]]
def l46r2 : List AOper :=
  [AOper.mk (some 6) (.build [.int .i64 0, .slice none 0 0, .slice none 0 0] []) none [], AOper.mk none (.store 3 (.tmp 2) (.tmp 6)) none [0, 0]]
def l46r3 : List AOper :=
  [AOper.mk (some 7) (.mv (.tmp 0)) none [], AOper.mk (some 8) (.call 41 [.tmp 7]) none [0], AOper.mk (some 9) (.bin .eql (.tmp 8) (.const (.int .i64 0))) none [1]]
def l46r4a : List AOper :=
  [AOper.mk (some 10) (.mv (.tmp 0)) none [], AOper.mk (some 11) (.call 60 [.tmp 10]) none [0], AOper.mk (some 12) (.mv (.tmp 0)) none [], AOper.mk (some 13) (.len (.tmp 12)) none [2], AOper.mk (some 14) (.mkslice 1 [.int .i64 0] (.tmp 13) (.tmp 13)) none [3, 3]]
def l46r4b : List AOper :=
  [AOper.mk (some 15) (.build [.int .i64 0, .slice none 0 0, .slice none 0 0] [(1, 1, .tmp 11), (2, 1, .tmp 14)]) none [1, 4], AOper.mk none (.store 3 (.tmp 2) (.tmp 15)) none [5, 1, 0, 1, 2, 3, 4, 5]]
def l46r4 : List AOper := l46r4a ++ l46r4b
def l46r5 : List AOper :=
  [AOper.mk (some 16) (.mv (.tmp 0)) none [], AOper.mk (some 17) (.call 60 [.tmp 16]) none [0], AOper.mk (some 18) (.mv (.tmp 0)) none [], AOper.mk (some 19) (.call 61 [.tmp 18]) none [2, 1], AOper.mk (some 20) (.build [.int .i64 0, .slice none 0 0, .slice none 0 0] [(1, 1, .tmp 17), (2, 1, .tmp 19)]) none [1, 3], AOper.mk none (.store 3 (.tmp 2) (.tmp 20)) none [4, 3, 0, 1, 2, 3, 4]]
def l46 : AFn :=
  (AFn.mk 21 1 (ACode.seq (ACode.reg l46r0) (ACode.seq (ACode.seq (ACode.reg l46r1) (ACode.cond (.tmp 5) (ACode.seq (ACode.reg l46r2) ACode.ret) ACode.skip)) (ACode.seq (ACode.seq (ACode.reg l46r3) (ACode.cond (.tmp 9) (ACode.seq (ACode.draw l46r4) ACode.ret) ACode.skip)) (ACode.seq (ACode.reg l46r5) ACode.ret)))) [ARes.cell 2 true 3])
theorem l46_eq : lowFn Try.prog 46 = some l46 := by kernel_rfl
def l47r0 : List AOper :=
  [AOper.mk (some 2) (.mv (.const (.slice none 0 0))) none []]
def l47r1 : List AOper :=
  [AOper.mk (some 6) (.bslice 1 [.int .i64 0] [] 0) none [], AOper.mk (some 3) (.mv (.tmp 6)) none [0, 0]]
def l47r2 : List AOper :=
  [AOper.mk (some 7) (.mv (.tmp 0)) none [], AOper.mk (some 8) (.bslice 1 [.int .i64 0] [(0, .const (.int .i64 2)), (1, .const (.int .i64 1)), (2, .const (.int .i64 3)), (3, .const (.int .i64 2)), (4, .const (.int .i64 0)), (5, .const (.int .i64 4))] 6) none [], AOper.mk (some 9) (.call 35 [.tmp 7, .tmp 8]) none [0, 1], AOper.mk (some 4) (.mv (.tmp 9)) none [2, 2, 0, 1, 2]]
def l47r3 : List AOper :=
  [AOper.mk (some 10) (.mv (.tmp 4)) none [], AOper.mk (some 11) (.bin .gtr (.tmp 10) (.const (.int .i64 0))) none [0]]
def l47r4 : List AOper :=
  [AOper.mk (some 14) (.mv (.tmp 0)) none [], AOper.mk (some 15) (.bslice 1 [.int .i64 0] [(0, .const (.int .i64 2)), (1, .const (.int .i64 3)), (2, .const (.int .i64 1)), (3, .const (.int .i64 4)), (4, .const (.int .i64 2)), (5, .const (.int .i64 3)), (6, .const (.int .i64 5)), (7, .const (.int .i64 0))] 8) none [], AOper.mk (some 16) (.call 35 [.tmp 14, .tmp 15]) none [0, 1], AOper.mk (some 5) (.mv (.tmp 16)) none [2, 2, 0, 1, 2]]
def l47r5 : List AOper :=
  [AOper.mk (some 17) (.mv (.tmp 3)) none [], AOper.mk (some 18) (.call 41 [.tmp 17]) none [0], AOper.mk (some 19) (.mv (.tmp 5)) none [], AOper.mk (some 20) (.bin .mul (.tmp 18) (.tmp 19)) none [1, 2], AOper.mk (some 21) (.bin .leq (.tmp 20) (.const (.int .i64 60))) none [3]]
def l47r6 : List AOper :=
  [AOper.mk (some 22) (.mv (.tmp 3)) none [], AOper.mk (some 23) (.mv (.tmp 5)) none [], AOper.mk (some 24) (.bslice 1 [.int .i64 0] [(0, .tmp 23)] 1) none [1], AOper.mk (some 25) (.append 1 (.tmp 22) (.tmp 24)) none [0, 2], AOper.mk (some 3) (.mv (.tmp 25)) none [3, 3, 0, 1, 2, 3]]
def l47r7 : List AOper :=
  [AOper.mk (some 12) (.mv (.tmp 4)) none [], AOper.mk (some 13) (.bin .sub (.tmp 12) (.const (.int .i64 1))) none [0], AOper.mk (some 4) (.mv (.tmp 13)) none [1, 0, 1]]
def l47r8 : List AOper :=
  [AOper.mk (some 26) (.mv (.tmp 3)) none [], AOper.mk (some 2) (.mv (.tmp 26)) none [0, 0]]
def l47 : AFn :=
  (AFn.mk 27 1 (ACode.seq (ACode.reg l47r0) (ACode.seq (ACode.reg l47r1) (ACode.seq (ACode.seq (ACode.reg l47r2) (ACode.block 0 (ACode.loop (ACode.seq (ACode.seq (ACode.reg l47r3) (ACode.cond (.tmp 11) ACode.skip (ACode.exit 0))) (ACode.seq (ACode.block 1 (ACode.seq (ACode.reg l47r4) (ACode.seq (ACode.reg l47r5) (ACode.cond (.tmp 21) (ACode.reg l47r6) ACode.skip)))) (ACode.reg l47r7)))))) (ACode.seq (ACode.reg l47r8) ACode.ret)))) [ARes.tmp 2])
theorem l47_eq : lowFn Try.prog 47 = some l47 := by kernel_rfl
def l48r0 : List AOper :=
  [AOper.mk (some 3) (.box (.tmp 0)) none [], AOper.mk (some 5) (.box (.tmp 2)) none [], AOper.mk (some 6) (.alloc [.int .i64 0, .slice none 0 0, .slice none 0 0]) none [], AOper.mk (some 7) (.mv (.const (.bool false))) none []]
def l48r1 : List AOper :=
  [AOper.mk (some 8) (.load true 3 (.tmp 3)) none [], AOper.mk (some 9) (.call 22 [.tmp 8]) none [0], AOper.mk (some 10) (.un .not (.tmp 9)) none [1], AOper.mk (some 11) (.mv (.tmp 10)) none [2, 1], AOper.mk (some 12) (.load true 3 (.tmp 3)) (some (11, false)) [3], AOper.mk (some 13) (.mv (.tmp 1)) (some (11, false)) [3], AOper.mk (some 14) (.call 62 [.tmp 12, .tmp 13]) (some (11, false)) [4, 5, 3, 3], AOper.mk (some 15) (.un .not (.tmp 14)) (some (11, false)) [6, 3], AOper.mk (some 16) (.pick (.tmp 11) (.const (.bool true)) (.tmp 15)) none [3, 7], AOper.mk (some 17) (.mv (.tmp 16)) none [8, 6], AOper.mk (some 18) (.load true 5 (.tmp 5)) (some (17, false)) [9], AOper.mk (some 19) (.call 63 [.tmp 18]) (some (17, false)) [10, 9, 9], AOper.mk (some 20) (.un .not (.tmp 19)) (some (17, false)) [11, 9], AOper.mk (some 21) (.pick (.tmp 17) (.const (.bool true)) (.tmp 20)) none [9, 12]]
def l48r2 : List AOper :=
  [AOper.mk (some 22) (.build [.int .i64 0, .slice none 0 0, .slice none 0 0] []) none [], AOper.mk none (.store 3 (.tmp 6) (.tmp 22)) none [0, 0], AOper.mk (some 7) (.mv (.const (.bool false))) none [1, 0, 1]]
def l48r3 : List AOper :=
  [AOper.mk (some 23) (.load true 3 (.tmp 3)) none [], AOper.mk (some 24) (.mv (.tmp 1)) none [], AOper.mk (some 25) (.load true 5 (.tmp 5)) none [], AOper.mk (some 26) (.call 65 [.tmp 23, .tmp 24, .tmp 25]) none [0, 1, 2], AOper.mk (some 27) (.call 64 [.tmp 26]) none [3, 3], AOper.mk (some 28) (.extract (.tmp 27) 0) none [4], AOper.mk (some 29) (.extract (.tmp 27) 1) none [4], AOper.mk none (.store 3 (.tmp 6) (.tmp 28)) none [5, 4, 0, 1, 2, 3, 4, 5, 6], AOper.mk (some 7) (.mv (.tmp 29)) none [6, 7, 0, 1, 2, 3, 4, 5, 6, 7]]
def l48 : AFn :=
  (AFn.mk 30 3 (ACode.seq (ACode.reg l48r0) (ACode.seq (ACode.seq (ACode.reg l48r1) (ACode.cond (.tmp 21) (ACode.seq (ACode.reg l48r2) ACode.ret) ACode.skip)) (ACode.seq (ACode.reg l48r3) ACode.ret))) [ARes.cell 6 true 3, ARes.tmp 7])
theorem l48_eq : lowFn Try.prog 48 = some l48 := by kernel_rfl
def l49r0 : List AOper :=
  [AOper.mk (some 2) (.alloc [.int .i64 0, .int .i64 0, .int .i64 0, .bool false, .bool false]) none []]
def l49r1 : List AOper :=
  [AOper.mk (some 4) (.mv (.tmp 0)) none [], AOper.mk (some 5) (.bslice 1 [.int .i64 0] [(0, .const (.int .i64 1)), (1, .const (.int .i64 2)), (2, .const (.int .i64 (-1))), (3, .const (.int .i64 3)), (4, .const (.int .i64 (-2))), (5, .const (.int .i64 1)), (6, .const (.int .i64 5))] 7) none [], AOper.mk (some 6) (.call 35 [.tmp 4, .tmp 5]) none [0, 1], AOper.mk (some 7) (.build [.int .i64 0, .int .i64 0, .int .i64 0, .bool false, .bool false] [(2, 1, .tmp 6)]) none [2], AOper.mk (some 3) (.alloc [.int .i64 0, .int .i64 0, .int .i64 0, .bool false, .bool false]) none [], AOper.mk none (.store 5 (.tmp 3) (.tmp 7)) none [4, 3, 2, 0, 1, 2, 3, 4]]
def l49r2 : List AOper :=
  [AOper.mk (some 8) (.mv (.tmp 0)) none [], AOper.mk (some 9) (.call 34 [.tmp 8, .const (.int .i64 2)]) none [0], AOper.mk (some 10) (.bin .eql (.tmp 9) (.const (.int .i64 0))) none [1]]
def l49r3 : List AOper :=
  [AOper.mk (some 11) (.fld 3 (.tmp 3)) none [], AOper.mk none (.store 1 (.tmp 11) (.const (.bool true))) none [0]]
def l49r4 : List AOper :=
  [AOper.mk (some 12) (.mv (.tmp 0)) none [], AOper.mk (some 13) (.mv (.tmp 0)) none [], AOper.mk (some 14) (.call 34 [.tmp 13, .const (.int .i64 12)]) none [1], AOper.mk (some 15) (.bslice 1 [.int .i64 0] [(0, .const (.int .i64 1)), (1, .const (.int .i64 2)), (2, .const (.int .i64 0)), (3, .const (.int .i64 (-1))), (4, .const (.int .i64 (-3))), (5, .tmp 14), (6, .const (.int .i64 30)), (7, .const (.int .i64 (-30)))] 8) none [2], AOper.mk (some 16) (.call 35 [.tmp 12, .tmp 15]) none [0, 3, 2], AOper.mk (some 17) (.fld 0 (.tmp 3)) none [0, 1, 2, 3, 4], AOper.mk none (.store 1 (.tmp 17) (.tmp 16)) none [5, 4, 4, 0, 1, 2, 3, 4]]
def l49r5 : List AOper :=
  [AOper.mk (some 18) (.mv (.tmp 0)) none [], AOper.mk (some 19) (.call 34 [.tmp 18, .const (.int .i64 2)]) none [0], AOper.mk (some 20) (.bin .eql (.tmp 19) (.const (.int .i64 0))) none [1]]
def l49r6 : List AOper :=
  [AOper.mk (some 21) (.fld 4 (.tmp 3)) none [], AOper.mk none (.store 1 (.tmp 21) (.const (.bool true))) none [0]]
def l49r7 : List AOper :=
  [AOper.mk (some 22) (.mv (.tmp 0)) none [], AOper.mk (some 23) (.mv (.tmp 0)) none [], AOper.mk (some 24) (.call 34 [.tmp 23, .const (.int .i64 12)]) none [1], AOper.mk (some 25) (.bslice 1 [.int .i64 0] [(0, .const (.int .i64 4)), (1, .const (.int .i64 3)), (2, .const (.int .i64 (-1))), (3, .const (.int .i64 (-2))), (4, .const (.int .i64 0)), (5, .tmp 24), (6, .const (.int .i64 30)), (7, .const (.int .i64 (-30)))] 8) none [2], AOper.mk (some 26) (.call 35 [.tmp 22, .tmp 25]) none [0, 3, 2], AOper.mk (some 27) (.fld 1 (.tmp 3)) none [0, 1, 2, 3, 4], AOper.mk none (.store 1 (.tmp 27) (.tmp 26)) none [5, 4, 4, 0, 1, 2, 3, 4]]
def l49r8 : List AOper :=
  [AOper.mk (some 28) (.mv (.tmp 0)) none [], AOper.mk (some 29) (.call 34 [.tmp 28, .const (.int .i64 24)]) none [0]]
def l49r9 : List AOper :=
  [AOper.mk (some 31) (.bin .eql (.tmp 29) (.const (.int .i64 0))) none [], AOper.mk (some 30) (.mv (.tmp 31)) none [0]]
def l49r10 : List AOper :=
  [AOper.mk (some 32) (.mv (.tmp 0)) none [], AOper.mk (some 33) (.bslice 1 [.int .i64 0] [(0, .const (.int .i64 0)), (1, .const (.int .i64 201))] 2) none [], AOper.mk (some 34) (.call 35 [.tmp 32, .tmp 33]) none [0, 1], AOper.mk (some 35) (.fld 2 (.tmp 3)) none [0, 1, 2], AOper.mk none (.store 1 (.tmp 35) (.tmp 34)) none [3, 2, 2, 0, 1, 2]]
def l49r11 : List AOper :=
  [AOper.mk (some 37) (.bin .eql (.tmp 29) (.const (.int .i64 1))) none [], AOper.mk (some 36) (.mv (.tmp 37)) none [0]]
def l49r12 : List AOper :=
  [AOper.mk (some 38) (.fld 0 (.tmp 3)) none [], AOper.mk none (.store 1 (.tmp 38) (.const (.int .i64 101))) none [0]]
def l49r13 : List AOper :=
  [AOper.mk (some 40) (.bin .eql (.tmp 29) (.const (.int .i64 2))) none [], AOper.mk (some 39) (.mv (.tmp 40)) none [0]]
def l49r14 : List AOper :=
  [AOper.mk (some 41) (.mv (.tmp 0)) none [], AOper.mk (some 42) (.bslice 1 [.int .i64 0] [(0, .const (.int .i64 1)), (1, .const (.int .i64 (-101)))] 2) none [], AOper.mk (some 43) (.call 35 [.tmp 41, .tmp 42]) none [0, 1], AOper.mk (some 44) (.fld 1 (.tmp 3)) none [0, 1, 2], AOper.mk none (.store 1 (.tmp 44) (.tmp 43)) none [3, 2, 2, 0, 1, 2]]
def l49r15 : List AOper :=
  [AOper.mk (some 45) (.load true 5 (.tmp 3)) none [], AOper.mk none (.store 5 (.tmp 2) (.tmp 45)) none [0, 0]]
def l49 : AFn :=
  (AFn.mk 46 1 (ACode.seq (ACode.reg l49r0) (ACode.seq (ACode.reg l49r1) (ACode.seq (ACode.seq (ACode.reg l49r2) (ACode.cond (.tmp 10) (ACode.seq (ACode.reg l49r3) (ACode.reg l49r4)) ACode.skip)) (ACode.seq (ACode.seq (ACode.reg l49r5) (ACode.cond (.tmp 20) (ACode.seq (ACode.reg l49r6) (ACode.reg l49r7)) ACode.skip)) (ACode.seq (ACode.seq (ACode.reg l49r8) (ACode.block 0 (ACode.seq (ACode.reg l49r9) (ACode.cond (.tmp 30) (ACode.reg l49r10) (ACode.seq (ACode.reg l49r11) (ACode.cond (.tmp 36) (ACode.reg l49r12) (ACode.seq (ACode.reg l49r13) (ACode.cond (.tmp 39) (ACode.reg l49r14) ACode.skip)))))))) (ACode.seq (ACode.reg l49r15) ACode.ret)))))) [ARes.cell 2 true 5])
theorem l49_eq : lowFn Try.prog 49 = some l49 := by kernel_rfl
def l50r0 : List AOper :=
  [AOper.mk (some 2) (.box (.tmp 0)) none [], AOper.mk (some 4) (.alloc [.int .i64 0, .slice none 0 0, .slice none 0 0]) none [], AOper.mk (some 5) (.mv (.const (.bool false))) none []]
def l50r1 : List AOper :=
  [AOper.mk (some 6) (.load true 3 (.tmp 2)) none [], AOper.mk (some 7) (.mv (.tmp 1)) none [], AOper.mk (some 8) (.build [.int .i64 0, .int .i64 0, .int .i64 0, .bool false, .bool false] [(2, 1, .const (.int .i64 (-1)))]) none [], AOper.mk (some 9) (.call 48 [.tmp 6, .tmp 7, .tmp 8]) none [0, 1, 2], AOper.mk (some 10) (.extract (.tmp 9) 0) none [3], AOper.mk (some 11) (.extract (.tmp 9) 1) none [3], AOper.mk none (.store 3 (.tmp 4) (.tmp 10)) none [4, 3, 0, 1, 2, 3, 4, 5], AOper.mk (some 5) (.mv (.tmp 11)) none [5, 6, 0, 1, 2, 3, 4, 5, 6]]
def l50 : AFn :=
  (AFn.mk 12 2 (ACode.seq (ACode.reg l50r0) (ACode.seq (ACode.reg l50r1) ACode.ret)) [ARes.cell 4 true 3, ARes.tmp 5])
theorem l50_eq : lowFn Try.prog 50 = some l50 := by kernel_rfl
def l51r0 : List AOper :=
  [AOper.mk (some 2) (.box (.tmp 0)) none [], AOper.mk (some 4) (.alloc [.int .i64 0, .slice none 0 0, .slice none 0 0]) none [], AOper.mk (some 5) (.mv (.const (.bool false))) none []]
def l51r1 : List AOper :=
  [AOper.mk (some 6) (.load true 3 (.tmp 2)) none [], AOper.mk (some 7) (.call 22 [.tmp 6]) none [0], AOper.mk (some 8) (.un .not (.tmp 7)) none [1], AOper.mk (some 9) (.mv (.tmp 8)) none [2, 1], AOper.mk (some 10) (.mv (.tmp 1)) (some (9, false)) [3], AOper.mk (some 11) (.fld 1 (.tmp 2)) (some (9, false)) [3], AOper.mk (some 12) (.load false 1 (.tmp 11)) (some (9, false)) [5, 3], AOper.mk (some 13) (.len (.tmp 12)) (some (9, false)) [6, 3], AOper.mk (some 14) (.call 66 [.tmp 10, .tmp 13]) (some (9, false)) [4, 7, 3, 3], AOper.mk (some 15) (.un .not (.tmp 14)) (some (9, false)) [8, 3], AOper.mk (some 16) (.pick (.tmp 9) (.const (.bool true)) (.tmp 15)) none [3, 9]]
def l51r2 : List AOper :=
  [AOper.mk (some 17) (.build [.int .i64 0, .slice none 0 0, .slice none 0 0] []) none [], AOper.mk none (.store 3 (.tmp 4) (.tmp 17)) none [0, 0], AOper.mk (some 5) (.mv (.const (.bool false))) none [1, 0, 1]]
def l51r3 : List AOper :=
  [AOper.mk (some 18) (.load true 3 (.tmp 2)) none [], AOper.mk (some 19) (.mv (.tmp 1)) none [], AOper.mk (some 20) (.call 67 [.tmp 18, .tmp 19]) none [0, 1], AOper.mk (some 21) (.call 64 [.tmp 20]) none [2, 2], AOper.mk (some 22) (.extract (.tmp 21) 0) none [3], AOper.mk (some 23) (.extract (.tmp 21) 1) none [3], AOper.mk none (.store 3 (.tmp 4) (.tmp 22)) none [4, 3, 0, 1, 2, 3, 4, 5], AOper.mk (some 5) (.mv (.tmp 23)) none [5, 6, 0, 1, 2, 3, 4, 5, 6]]
def l51 : AFn :=
  (AFn.mk 24 2 (ACode.seq (ACode.reg l51r0) (ACode.seq (ACode.seq (ACode.reg l51r1) (ACode.cond (.tmp 16) (ACode.seq (ACode.reg l51r2) ACode.ret) ACode.skip)) (ACode.seq (ACode.reg l51r3) ACode.ret))) [ARes.cell 4 true 3, ARes.tmp 5])
theorem l51_eq : lowFn Try.prog 51 = some l51 := by kernel_rfl
def l52r0 : List AOper :=
  [AOper.mk (some 2) (.mv (.const (.slice none 0 0))) none []]
def l52r1 : List AOper :=
  [AOper.mk (some 5) (.bslice 1 [.int .i64 0] [] 0) none [], AOper.mk (some 3) (.mv (.tmp 5)) none [0, 0]]
def l52r2 : List AOper :=
  [AOper.mk (some 6) (.mv (.tmp 0)) none [], AOper.mk (some 7) (.len (.tmp 6)) none [0], AOper.mk (some 8) (.bin .sub (.tmp 7) (.const (.int .i64 1))) none [1], AOper.mk (some 4) (.mv (.tmp 8)) none [2, 0, 1, 2]]
def l52r3 : List AOper :=
  [AOper.mk (some 9) (.mv (.tmp 4)) none [], AOper.mk (some 10) (.bin .geq (.tmp 9) (.const (.int .i64 0))) none [0]]
def l52r4 : List AOper :=
  [AOper.mk (some 13) (.mv (.tmp 3)) none [], AOper.mk (some 14) (.mv (.tmp 0)) none [], AOper.mk (some 15) (.mv (.tmp 4)) none [], AOper.mk (some 16) (.idxA 1 (.tmp 14) (.tmp 15)) none [1, 2], AOper.mk (some 17) (.load false 1 (.tmp 16)) none [3], AOper.mk (some 18) (.bslice 1 [.int .i64 0] [(0, .tmp 17)] 1) none [4], AOper.mk (some 19) (.append 1 (.tmp 13) (.tmp 18)) none [0, 5], AOper.mk (some 3) (.mv (.tmp 19)) none [6, 6, 0, 1, 2, 3, 4, 5, 6]]
def l52r5 : List AOper :=
  [AOper.mk (some 11) (.mv (.tmp 4)) none [], AOper.mk (some 12) (.bin .sub (.tmp 11) (.const (.int .i64 1))) none [0], AOper.mk (some 4) (.mv (.tmp 12)) none [1, 0, 1]]
def l52r6 : List AOper :=
  [AOper.mk (some 20) (.mv (.tmp 3)) none [], AOper.mk (some 2) (.mv (.tmp 20)) none [0, 0]]
def l52 : AFn :=
  (AFn.mk 21 1 (ACode.seq (ACode.reg l52r0) (ACode.seq (ACode.reg l52r1) (ACode.seq (ACode.seq (ACode.reg l52r2) (ACode.block 0 (ACode.loop (ACode.seq (ACode.seq (ACode.reg l52r3) (ACode.cond (.tmp 10) ACode.skip (ACode.exit 0))) (ACode.seq (ACode.block 1 (ACode.reg l52r4)) (ACode.reg l52r5)))))) (ACode.seq (ACode.reg l52r6) ACode.ret)))) [ARes.tmp 2])
theorem l52_eq : lowFn Try.prog 52 = some l52 := by kernel_rfl
def l53r0 : List AOper :=
  [AOper.mk (some 2) (.mv (.const (.slice none 0 0))) none []]
def l53r1 : List AOper :=
  [AOper.mk (some 5) (.bslice 1 [.int .i64 0] [] 0) none [], AOper.mk (some 3) (.mv (.tmp 5)) none [0, 0]]
def l53r2 : List AOper :=
  [AOper.mk (some 4) (.mv (.const (.int .i64 0))) none []]
def l53r3 : List AOper :=
  [AOper.mk (some 6) (.mv (.tmp 4)) none [], AOper.mk (some 7) (.mv (.tmp 0)) none [], AOper.mk (some 8) (.bin .lss (.tmp 6) (.tmp 7)) none [0, 1]]
def l53r4 : List AOper :=
  [AOper.mk (some 11) (.mv (.tmp 3)) none [], AOper.mk (some 12) (.mv (.tmp 4)) none [], AOper.mk (some 13) (.bslice 1 [.int .i64 0] [(0, .tmp 12)] 1) none [1], AOper.mk (some 14) (.append 1 (.tmp 11) (.tmp 13)) none [0, 2], AOper.mk (some 3) (.mv (.tmp 14)) none [3, 3, 0, 1, 2, 3]]
def l53r5 : List AOper :=
  [AOper.mk (some 9) (.mv (.tmp 4)) none [], AOper.mk (some 10) (.bin .add (.tmp 9) (.const (.int .i64 1))) none [0], AOper.mk (some 4) (.mv (.tmp 10)) none [1, 0, 1]]
def l53r6 : List AOper :=
  [AOper.mk (some 15) (.mv (.tmp 3)) none [], AOper.mk (some 2) (.mv (.tmp 15)) none [0, 0]]
def l53 : AFn :=
  (AFn.mk 16 1 (ACode.seq (ACode.reg l53r0) (ACode.seq (ACode.reg l53r1) (ACode.seq (ACode.seq (ACode.reg l53r2) (ACode.block 0 (ACode.loop (ACode.seq (ACode.seq (ACode.reg l53r3) (ACode.cond (.tmp 8) ACode.skip (ACode.exit 0))) (ACode.seq (ACode.block 1 (ACode.reg l53r4)) (ACode.reg l53r5)))))) (ACode.seq (ACode.reg l53r6) ACode.ret)))) [ARes.tmp 2])
theorem l53_eq : lowFn Try.prog 53 = some l53 := by kernel_rfl
def l54r0 : List AOper :=
  [AOper.mk (some 3) (.box (.tmp 0)) none [], AOper.mk (some 6) (.alloc [.int .i64 0, .slice none 0 0, .slice none 0 0]) none [], AOper.mk (some 7) (.mv (.const (.bool false))) none []]
def l54r1 : List AOper :=
  [AOper.mk (some 9) (.load true 3 (.tmp 3)) none [], AOper.mk (some 10) (.call 22 [.tmp 9]) none [0], AOper.mk (some 11) (.un .not (.tmp 10)) none [1], AOper.mk (some 12) (.mv (.tmp 11)) none [2, 1], AOper.mk (some 13) (.load true 3 (.tmp 3)) (some (12, false)) [3], AOper.mk (some 14) (.mv (.tmp 1)) (some (12, false)) [3], AOper.mk (some 15) (.call 62 [.tmp 13, .tmp 14]) (some (12, false)) [4, 5, 3, 3], AOper.mk (some 16) (.un .not (.tmp 15)) (some (12, false)) [6, 3], AOper.mk (some 17) (.pick (.tmp 12) (.const (.bool true)) (.tmp 16)) none [3, 7], AOper.mk (some 18) (.mv (.tmp 17)) none [8, 6], AOper.mk (some 19) (.mv (.tmp 2)) (some (18, false)) [9], AOper.mk (some 20) (.fld 1 (.tmp 3)) (some (18, false)) [9], AOper.mk (some 21) (.load false 1 (.tmp 20)) (some (18, false)) [11, 9], AOper.mk (some 22) (.mv (.tmp 1)) (some (18, false)) [9], AOper.mk (some 23) (.idxA 1 (.tmp 21) (.tmp 22)) (some (18, false)) [12, 13, 9], AOper.mk (some 24) (.load false 1 (.tmp 23)) (some (18, false)) [14, 9], AOper.mk (some 25) (.call 40 [.tmp 19, .const (.int .i64 1), .tmp 24]) (some (18, false)) [10, 15, 9, 9], AOper.mk (some 26) (.un .not (.tmp 25)) (some (18, false)) [16, 9], AOper.mk (some 27) (.pick (.tmp 18) (.const (.bool true)) (.tmp 26)) none [9, 17]]
def l54r2 : List AOper :=
  [AOper.mk (some 28) (.build [.int .i64 0, .slice none 0 0, .slice none 0 0] []) none [], AOper.mk none (.store 3 (.tmp 6) (.tmp 28)) none [0, 0], AOper.mk (some 7) (.mv (.const (.bool false))) none [1, 0, 1]]
def l54r3 : List AOper :=
  [AOper.mk (some 29) (.load true 3 (.tmp 3)) none [], AOper.mk (some 30) (.call 56 [.tmp 29]) none [0], AOper.mk (some 8) (.alloc [.int .i64 0, .slice none 0 0, .slice none 0 0]) none [], AOper.mk none (.store 3 (.tmp 8) (.tmp 30)) none [2, 1, 1, 0, 1, 2]]
def l54r4a : List AOper :=
  [AOper.mk (some 31) (.fld 1 (.tmp 8)) none [], AOper.mk (some 32) (.load false 1 (.tmp 31)) none [0], AOper.mk (some 33) (.mv (.tmp 1)) none [], AOper.mk (some 34) (.fld 1 (.tmp 3)) none [], AOper.mk (some 35) (.load false 1 (.tmp 34)) none [3], AOper.mk (some 36) (.mv (.tmp 1)) none [], AOper.mk (some 37) (.idxA 1 (.tmp 35) (.tmp 36)) none [4, 5], AOper.mk (some 38) (.load false 1 (.tmp 37)) none [6], AOper.mk (some 39) (.mv (.tmp 2)) none [], AOper.mk (some 40) (.bin .sub (.tmp 38) (.tmp 39)) none [7, 8], AOper.mk (some 41) (.bin .add (.tmp 40) (.const (.int .i64 1))) none [9]]
def l54r4b : List AOper :=
  [AOper.mk (some 42) (.idxA 1 (.tmp 32) (.tmp 33)) none [1, 2, 0, 1, 2, 3, 4, 5, 6, 7, 8, 9, 10], AOper.mk none (.store 1 (.tmp 42) (.tmp 41)) none [11, 10, 0, 1, 2, 3, 4, 5, 6, 7, 8, 9, 10]]
def l54r4 : List AOper := l54r4a ++ l54r4b
def l54r5 : List AOper :=
  [AOper.mk (some 43) (.fld 1 (.tmp 8)) none [], AOper.mk (some 44) (.load false 1 (.tmp 43)) none [0], AOper.mk (some 45) (.mv (.tmp 2)) none [], AOper.mk (some 46) (.bslice 1 [.int .i64 0] [(0, .tmp 45)] 1) none [2], AOper.mk (some 47) (.append 1 (.tmp 44) (.tmp 46)) none [1, 3], AOper.mk (some 48) (.fld 1 (.tmp 8)) none [0, 1, 2, 3, 4], AOper.mk none (.store 1 (.tmp 48) (.tmp 47)) none [5, 4, 4, 0, 1, 2, 3, 4]]
def l54r6a : List AOper :=
  [AOper.mk (some 49) (.fld 2 (.tmp 8)) none [], AOper.mk (some 50) (.load false 1 (.tmp 49)) none [0], AOper.mk (some 51) (.fld 2 (.tmp 3)) none [], AOper.mk (some 52) (.load false 1 (.tmp 51)) none [2], AOper.mk (some 53) (.mv (.tmp 1)) none [], AOper.mk (some 54) (.idxA 1 (.tmp 52) (.tmp 53)) none [3, 4], AOper.mk (some 55) (.load false 1 (.tmp 54)) none [5], AOper.mk (some 56) (.bslice 1 [.int .i64 0] [(0, .tmp 55)] 1) none [6]]
def l54r6b : List AOper :=
  [AOper.mk (some 57) (.append 1 (.tmp 50) (.tmp 56)) none [1, 7], AOper.mk (some 58) (.fld 2 (.tmp 8)) none [0, 1, 2, 3, 4, 5, 6, 7, 8], AOper.mk none (.store 1 (.tmp 58) (.tmp 57)) none [9, 8, 8, 0, 1, 2, 3, 4, 5, 6, 7, 8]]
def l54r6 : List AOper := l54r6a ++ l54r6b
def l54r7 : List AOper :=
  [AOper.mk (some 59) (.load true 3 (.tmp 8)) none [], AOper.mk (some 60) (.call 64 [.tmp 59]) none [0], AOper.mk (some 61) (.extract (.tmp 60) 0) none [1], AOper.mk (some 62) (.extract (.tmp 60) 1) none [1], AOper.mk none (.store 3 (.tmp 6) (.tmp 61)) none [2, 1, 0, 1, 2, 3], AOper.mk (some 7) (.mv (.tmp 62)) none [3, 4, 0, 1, 2, 3, 4]]
def l54 : AFn :=
  (AFn.mk 63 3 (ACode.seq (ACode.reg l54r0) (ACode.seq (ACode.seq (ACode.reg l54r1) (ACode.cond (.tmp 27) (ACode.seq (ACode.reg l54r2) ACode.ret) ACode.skip)) (ACode.seq (ACode.reg l54r3) (ACode.seq (ACode.draw l54r4) (ACode.seq (ACode.reg l54r5) (ACode.seq (ACode.draw l54r6) (ACode.seq (ACode.reg l54r7) ACode.ret))))))) [ARes.cell 6 true 3, ARes.tmp 7])
theorem l54_eq : lowFn Try.prog 54 = some l54 := by kernel_rfl
def l55r0 : List AOper :=
  [AOper.mk (some 2) (.box (.tmp 0)) none [], AOper.mk (some 4) (.alloc [.int .i64 0, .slice none 0 0, .slice none 0 0]) none [], AOper.mk (some 5) (.mv (.const (.bool false))) none []]
def l55r1 : List AOper :=
  [AOper.mk (some 6) (.load true 3 (.tmp 2)) none [], AOper.mk (some 7) (.call 22 [.tmp 6]) none [0], AOper.mk (some 8) (.un .not (.tmp 7)) none [1], AOper.mk (some 9) (.mv (.tmp 8)) none [2, 1], AOper.mk (some 10) (.mv (.tmp 1)) (some (9, false)) [3], AOper.mk (some 11) (.fld 1 (.tmp 2)) (some (9, false)) [3], AOper.mk (some 12) (.load false 1 (.tmp 11)) (some (9, false)) [5, 3], AOper.mk (some 13) (.len (.tmp 12)) (some (9, false)) [6, 3], AOper.mk (some 14) (.call 40 [.tmp 10, .const (.int .i64 0), .tmp 13]) (some (9, false)) [4, 7, 3, 3], AOper.mk (some 15) (.un .not (.tmp 14)) (some (9, false)) [8, 3], AOper.mk (some 16) (.pick (.tmp 9) (.const (.bool true)) (.tmp 15)) none [3, 9], AOper.mk (some 17) (.mv (.tmp 16)) none [10, 8], AOper.mk (some 18) (.fld 1 (.tmp 2)) (some (17, false)) [11], AOper.mk (some 19) (.load false 1 (.tmp 18)) (some (17, false)) [12, 11], AOper.mk (some 20) (.len (.tmp 19)) (some (17, false)) [13, 11], AOper.mk (some 21) (.bin .eql (.tmp 20) (.const (.int .i64 4))) (some (17, false)) [14, 11], AOper.mk (some 22) (.pick (.tmp 17) (.const (.bool true)) (.tmp 21)) none [11, 15]]
def l55r2 : List AOper :=
  [AOper.mk (some 23) (.build [.int .i64 0, .slice none 0 0, .slice none 0 0] []) none [], AOper.mk none (.store 3 (.tmp 4) (.tmp 23)) none [0, 0], AOper.mk (some 5) (.mv (.const (.bool false))) none [1, 0, 1]]
def l55r3a : List AOper :=
  [AOper.mk (some 24) (.fld 0 (.tmp 2)) none [], AOper.mk (some 25) (.load false 1 (.tmp 24)) none [0], AOper.mk (some 26) (.fld 1 (.tmp 2)) none [], AOper.mk (some 27) (.load false 1 (.tmp 26)) none [2], AOper.mk (some 28) (.mv (.tmp 1)) none [], AOper.mk (some 29) (.call 68 [.tmp 27, .tmp 28, .const (.int .i64 1)]) none [3, 4], AOper.mk (some 30) (.fld 2 (.tmp 2)) none [], AOper.mk (some 31) (.load false 1 (.tmp 30)) none [6], AOper.mk (some 32) (.mv (.tmp 1)) none [], AOper.mk (some 33) (.call 68 [.tmp 31, .tmp 32, .const (.int .i64 0)]) none [7, 8, 5], AOper.mk (some 34) (.build [.int .i64 0, .slice none 0 0, .slice none 0 0] [(0, 1, .tmp 25), (1, 1, .tmp 29), (2, 1, .tmp 33)]) none [1, 5, 9], AOper.mk (some 35) (.call 64 [.tmp 34]) none [10, 9], AOper.mk (some 36) (.extract (.tmp 35) 0) none [11], AOper.mk (some 37) (.extract (.tmp 35) 1) none [11]]
def l55r3b : List AOper :=
  [AOper.mk none (.store 3 (.tmp 4) (.tmp 36)) none [12, 11, 0, 1, 2, 3, 4, 5, 6, 7, 8, 9, 10, 11, 12, 13], AOper.mk (some 5) (.mv (.tmp 37)) none [13, 14, 0, 1, 2, 3, 4, 5, 6, 7, 8, 9, 10, 11, 12, 13, 14]]
def l55r3 : List AOper := l55r3a ++ l55r3b
def l55 : AFn :=
  (AFn.mk 38 2 (ACode.seq (ACode.reg l55r0) (ACode.seq (ACode.seq (ACode.reg l55r1) (ACode.cond (.tmp 22) (ACode.seq (ACode.reg l55r2) ACode.ret) ACode.skip)) (ACode.seq (ACode.draw l55r3) ACode.ret))) [ARes.cell 4 true 3, ARes.tmp 5])
theorem l55_eq : lowFn Try.prog 55 = some l55 := by kernel_rfl
def l56r0 : List AOper :=
  [AOper.mk (some 1) (.box (.tmp 0)) none [], AOper.mk (some 2) (.alloc [.int .i64 0, .slice none 0 0, .slice none 0 0]) none []]
def l56r1a : List AOper :=
  [AOper.mk (some 3) (.fld 0 (.tmp 1)) none [], AOper.mk (some 4) (.load false 1 (.tmp 3)) none [0], AOper.mk (some 5) (.fld 1 (.tmp 1)) none [], AOper.mk (some 6) (.load false 1 (.tmp 5)) none [2], AOper.mk (some 7) (.call 60 [.tmp 6]) none [3], AOper.mk (some 8) (.fld 2 (.tmp 1)) none [], AOper.mk (some 9) (.load false 1 (.tmp 8)) none [5], AOper.mk (some 10) (.call 60 [.tmp 9]) none [6, 4]]
def l56r1b : List AOper :=
  [AOper.mk (some 11) (.build [.int .i64 0, .slice none 0 0, .slice none 0 0] [(0, 1, .tmp 4), (1, 1, .tmp 7), (2, 1, .tmp 10)]) none [1, 4, 7], AOper.mk none (.store 3 (.tmp 2) (.tmp 11)) none [8, 7, 0, 1, 2, 3, 4, 5, 6, 7, 8]]
def l56r1 : List AOper := l56r1a ++ l56r1b
def l56 : AFn :=
  (AFn.mk 12 1 (ACode.seq (ACode.reg l56r0) (ACode.seq (ACode.draw l56r1) ACode.ret)) [ARes.cell 2 true 3])
theorem l56_eq : lowFn Try.prog 56 = some l56 := by kernel_rfl
def l57r0 : List AOper :=
  [AOper.mk (some 2) (.box (.tmp 0)) none [], AOper.mk (some 4) (.mv (.const (.int .i64 0))) none []]
def l57r1 : List AOper :=
  [AOper.mk (some 5) (.mv (.const (.int .i64 0))) none []]
def l57r2 : List AOper :=
  [AOper.mk (some 8) (.mv (.tmp 1)) none [], AOper.mk (some 9) (.len (.tmp 8)) none [0], AOper.mk (some 10) (.mv (.const (.int .i64 0))) none []]
def l57r3 : List AOper :=
  [AOper.mk (some 11) (.bin .lss (.tmp 10) (.tmp 9)) none []]
def l57r4 : List AOper :=
  [AOper.mk (some 12) (.mv (.tmp 10)) none [], AOper.mk (some 13) (.idxA 1 (.tmp 8) (.tmp 10)) none [], AOper.mk (some 14) (.load false 1 (.tmp 13)) none [1], AOper.mk (some 6) (.mv (.tmp 12)) none [0, 0, 1, 2], AOper.mk (some 7) (.mv (.tmp 14)) none [2, 3, 0, 1, 2, 3]]
def l57r5 : List AOper :=
  [AOper.mk (some 15) (.mv (.tmp 5)) none [], AOper.mk (some 16) (.mv (.tmp 6)) none [], AOper.mk (some 17) (.idxP 1 4 (.tmp 2) (.tmp 16)) none [1], AOper.mk (some 18) (.load false 1 (.tmp 17)) none [2], AOper.mk (some 19) (.mv (.tmp 7)) none [], AOper.mk (some 20) (.bin .mul (.tmp 18) (.tmp 19)) none [3, 4], AOper.mk (some 21) (.bin .add (.tmp 15) (.tmp 20)) none [0, 5], AOper.mk (some 5) (.mv (.tmp 21)) none [6, 0, 1, 2, 3, 4, 5, 6]]
def l57r6 : List AOper :=
  [AOper.mk (some 22) (.bin .add (.tmp 10) (.const (.int .i64 1))) none [], AOper.mk (some 10) (.mv (.tmp 22)) none [0]]
def l57r7 : List AOper :=
  [AOper.mk (some 23) (.mv (.tmp 5)) none [], AOper.mk (some 4) (.mv (.tmp 23)) none [0, 0]]
def l57 : AFn :=
  (AFn.mk 24 2 (ACode.seq (ACode.reg l57r0) (ACode.seq (ACode.reg l57r1) (ACode.seq (ACode.seq (ACode.reg l57r2) (ACode.block 0 (ACode.loop (ACode.seq (ACode.reg l57r3) (ACode.seq (ACode.cond (.tmp 11) ACode.skip (ACode.exit 0)) (ACode.seq (ACode.block 1 (ACode.seq (ACode.reg l57r4) (ACode.reg l57r5))) (ACode.reg l57r6))))))) (ACode.seq (ACode.reg l57r7) ACode.ret)))) [ARes.tmp 4])
theorem l57_eq : lowFn Try.prog 57 = some l57 := by kernel_rfl
def l58r0 : List AOper :=
  [AOper.mk (some 2) (.box (.tmp 0)) none [], AOper.mk (some 4) (.mv (.const (.int .i64 0))) none []]
def l58r1 : List AOper :=
  [AOper.mk (some 7) (.fld 0 (.tmp 2)) none [], AOper.mk (some 8) (.load false 1 (.tmp 7)) none [0], AOper.mk (some 5) (.mv (.tmp 8)) none [1, 0, 1]]
def l58r2 : List AOper :=
  [AOper.mk (some 6) (.mv (.const (.int .i64 0))) none []]
def l58r3 : List AOper :=
  [AOper.mk (some 9) (.mv (.tmp 6)) none [], AOper.mk (some 10) (.mv (.tmp 1)) none [], AOper.mk (some 11) (.len (.tmp 10)) none [1], AOper.mk (some 12) (.bin .lss (.tmp 9) (.tmp 11)) none [0, 2]]
def l58r4a : List AOper :=
  [AOper.mk (some 15) (.mv (.tmp 5)) none [], AOper.mk (some 16) (.mv (.tmp 1)) none [], AOper.mk (some 17) (.mv (.tmp 6)) none [], AOper.mk (some 18) (.idxA 1 (.tmp 16) (.tmp 17)) none [1, 2], AOper.mk (some 19) (.load false 1 (.tmp 18)) none [3], AOper.mk (some 20) (.fld 2 (.tmp 2)) none [], AOper.mk (some 21) (.load false 1 (.tmp 20)) none [5], AOper.mk (some 22) (.mv (.tmp 6)) none [], AOper.mk (some 23) (.idxA 1 (.tmp 21) (.tmp 22)) none [6, 7], AOper.mk (some 24) (.load false 1 (.tmp 23)) none [8], AOper.mk (some 25) (.bin .mul (.tmp 19) (.tmp 24)) none [4, 9]]
def l58r4b : List AOper :=
  [AOper.mk (some 26) (.bin .add (.tmp 15) (.tmp 25)) none [0, 10], AOper.mk (some 5) (.mv (.tmp 26)) none [11, 0, 1, 2, 3, 4, 5, 6, 7, 8, 9, 10, 11]]
def l58r4 : List AOper := l58r4a ++ l58r4b
def l58r5 : List AOper :=
  [AOper.mk (some 13) (.mv (.tmp 6)) none [], AOper.mk (some 14) (.bin .add (.tmp 13) (.const (.int .i64 1))) none [0], AOper.mk (some 6) (.mv (.tmp 14)) none [1, 0, 1]]
def l58r6 : List AOper :=
  [AOper.mk (some 27) (.mv (.tmp 5)) none [], AOper.mk (some 4) (.mv (.tmp 27)) none [0, 0]]
def l58 : AFn :=
  (AFn.mk 28 2 (ACode.seq (ACode.reg l58r0) (ACode.seq (ACode.reg l58r1) (ACode.seq (ACode.seq (ACode.reg l58r2) (ACode.block 0 (ACode.loop (ACode.seq (ACode.seq (ACode.reg l58r3) (ACode.cond (.tmp 12) ACode.skip (ACode.exit 0))) (ACode.seq (ACode.block 1 (ACode.draw l58r4)) (ACode.reg l58r5)))))) (ACode.seq (ACode.reg l58r6) ACode.ret)))) [ARes.tmp 4])
theorem l58_eq : lowFn Try.prog 58 = some l58 := by kernel_rfl
def l59r0 : List AOper :=
  [AOper.mk (some 4) (.mv (.const (.slice none 0 0))) none []]
def l59r1 : List AOper :=
  [AOper.mk (some 7) (.mv (.tmp 0)) none [], AOper.mk (some 8) (.len (.tmp 7)) none [0], AOper.mk (some 9) (.mkslice 1 [.int .i64 0] (.tmp 8) (.tmp 8)) none [1, 1], AOper.mk (some 5) (.mv (.tmp 9)) none [2, 0, 1, 2]]
def l59r2 : List AOper :=
  [AOper.mk (some 10) (.mv (.tmp 0)) none [], AOper.mk (some 11) (.len (.tmp 10)) none [0], AOper.mk (some 12) (.bin .sub (.tmp 11) (.const (.int .i64 1))) none [1], AOper.mk (some 6) (.mv (.tmp 12)) none [2, 0, 1, 2]]
def l59r3 : List AOper :=
  [AOper.mk (some 13) (.mv (.tmp 6)) none [], AOper.mk (some 14) (.bin .geq (.tmp 13) (.const (.int .i64 0))) none [0]]
def l59r4 : List AOper :=
  [AOper.mk (some 17) (.mv (.tmp 5)) none [], AOper.mk (some 18) (.mv (.tmp 6)) none [], AOper.mk (some 19) (.mv (.tmp 1)) none [], AOper.mk (some 20) (.mv (.tmp 0)) none [], AOper.mk (some 21) (.mv (.tmp 6)) none [], AOper.mk (some 22) (.idxA 1 (.tmp 20) (.tmp 21)) none [3, 4], AOper.mk (some 23) (.load false 1 (.tmp 22)) none [5], AOper.mk (some 24) (.bin .rem (.tmp 19) (.tmp 23)) none [2, 6], AOper.mk (some 25) (.idxA 1 (.tmp 17) (.tmp 18)) none [0, 1, 0, 1, 2, 3, 4, 5, 6, 7], AOper.mk none (.store 1 (.tmp 25) (.tmp 24)) none [8, 7, 0, 1, 2, 3, 4, 5, 6, 7]]
def l59r5 : List AOper :=
  [AOper.mk (some 26) (.mv (.tmp 1)) none [], AOper.mk (some 27) (.mv (.tmp 0)) none [], AOper.mk (some 28) (.mv (.tmp 6)) none [], AOper.mk (some 29) (.idxA 1 (.tmp 27) (.tmp 28)) none [1, 2], AOper.mk (some 30) (.load false 1 (.tmp 29)) none [3], AOper.mk (some 31) (.bin .quo (.tmp 26) (.tmp 30)) none [0, 4], AOper.mk (some 1) (.mv (.tmp 31)) none [5, 0, 1, 2, 3, 4, 5]]
def l59r6 : List AOper :=
  [AOper.mk (some 15) (.mv (.tmp 6)) none [], AOper.mk (some 16) (.bin .sub (.tmp 15) (.const (.int .i64 1))) none [0], AOper.mk (some 6) (.mv (.tmp 16)) none [1, 0, 1]]
def l59r7 : List AOper :=
  [AOper.mk (some 32) (.mv (.tmp 5)) none [], AOper.mk (some 4) (.mv (.tmp 32)) none [0, 0]]
def l59 : AFn :=
  (AFn.mk 33 2 (ACode.seq (ACode.reg l59r0) (ACode.seq (ACode.reg l59r1) (ACode.seq (ACode.seq (ACode.reg l59r2) (ACode.block 0 (ACode.loop (ACode.seq (ACode.seq (ACode.reg l59r3) (ACode.cond (.tmp 14) ACode.skip (ACode.exit 0))) (ACode.seq (ACode.block 1 (ACode.seq (ACode.reg l59r4) (ACode.reg l59r5))) (ACode.reg l59r6)))))) (ACode.seq (ACode.reg l59r7) ACode.ret)))) [ARes.tmp 4])
theorem l59_eq : lowFn Try.prog 59 = some l59 := by kernel_rfl
def l60r0 : List AOper :=
  [AOper.mk (some 2) (.mv (.const (.slice none 0 0))) none []]
def l60r1 : List AOper :=
  [AOper.mk (some 3) (.bslice 1 [.int .i64 0] [] 0) none [], AOper.mk (some 4) (.mv (.tmp 0)) none [], AOper.mk (some 5) (.append 1 (.tmp 3) (.tmp 4)) none [0, 1], AOper.mk (some 2) (.mv (.tmp 5)) none [2, 2, 0, 1, 2]]
def l60 : AFn :=
  (AFn.mk 6 1 (ACode.seq (ACode.reg l60r0) (ACode.seq (ACode.reg l60r1) ACode.ret)) [ARes.tmp 2])
theorem l60_eq : lowFn Try.prog 60 = some l60 := by kernel_rfl
def l61r0 : List AOper :=
  [AOper.mk (some 2) (.mv (.const (.slice none 0 0))) none []]
def l61r1 : List AOper :=
  [AOper.mk (some 6) (.mv (.tmp 0)) none [], AOper.mk (some 7) (.len (.tmp 6)) none [0], AOper.mk (some 8) (.mkslice 1 [.int .i64 0] (.tmp 7) (.tmp 7)) none [1, 1], AOper.mk (some 3) (.mv (.tmp 8)) none [2, 0, 1, 2]]
def l61r2 : List AOper :=
  [AOper.mk (some 4) (.mv (.const (.int .i64 1))) none []]
def l61r3 : List AOper :=
  [AOper.mk (some 9) (.mv (.tmp 0)) none [], AOper.mk (some 10) (.len (.tmp 9)) none [0], AOper.mk (some 11) (.bin .sub (.tmp 10) (.const (.int .i64 1))) none [1], AOper.mk (some 5) (.mv (.tmp 11)) none [2, 0, 1, 2]]
def l61r4 : List AOper :=
  [AOper.mk (some 12) (.mv (.tmp 5)) none [], AOper.mk (some 13) (.bin .geq (.tmp 12) (.const (.int .i64 0))) none [0]]
def l61r5 : List AOper :=
  [AOper.mk (some 16) (.mv (.tmp 3)) none [], AOper.mk (some 17) (.mv (.tmp 5)) none [], AOper.mk (some 18) (.mv (.tmp 4)) none [], AOper.mk (some 19) (.idxA 1 (.tmp 16) (.tmp 17)) none [0, 1, 0, 1, 2], AOper.mk none (.store 1 (.tmp 19) (.tmp 18)) none [3, 2, 0, 1, 2]]
def l61r6 : List AOper :=
  [AOper.mk (some 20) (.mv (.tmp 4)) none [], AOper.mk (some 21) (.mv (.tmp 0)) none [], AOper.mk (some 22) (.mv (.tmp 5)) none [], AOper.mk (some 23) (.idxA 1 (.tmp 21) (.tmp 22)) none [1, 2], AOper.mk (some 24) (.load false 1 (.tmp 23)) none [3], AOper.mk (some 25) (.bin .mul (.tmp 20) (.tmp 24)) none [0, 4], AOper.mk (some 4) (.mv (.tmp 25)) none [5, 0, 1, 2, 3, 4, 5]]
def l61r7 : List AOper :=
  [AOper.mk (some 14) (.mv (.tmp 5)) none [], AOper.mk (some 15) (.bin .sub (.tmp 14) (.const (.int .i64 1))) none [0], AOper.mk (some 5) (.mv (.tmp 15)) none [1, 0, 1]]
def l61r8 : List AOper :=
  [AOper.mk (some 26) (.mv (.tmp 3)) none [], AOper.mk (some 2) (.mv (.tmp 26)) none [0, 0]]
def l61 : AFn :=
  (AFn.mk 27 1 (ACode.seq (ACode.reg l61r0) (ACode.seq (ACode.reg l61r1) (ACode.seq (ACode.reg l61r2) (ACode.seq (ACode.seq (ACode.reg l61r3) (ACode.block 0 (ACode.loop (ACode.seq (ACode.seq (ACode.reg l61r4) (ACode.cond (.tmp 13) ACode.skip (ACode.exit 0))) (ACode.seq (ACode.block 1 (ACode.seq (ACode.reg l61r5) (ACode.reg l61r6))) (ACode.reg l61r7)))))) (ACode.seq (ACode.reg l61r8) ACode.ret))))) [ARes.tmp 2])
theorem l61_eq : lowFn Try.prog 61 = some l61 := by kernel_rfl
def l62r0 : List AOper :=
  [AOper.mk (some 2) (.box (.tmp 0)) none [], AOper.mk (some 4) (.mv (.const (.bool false))) none []]
def l62r1 : List AOper :=
  [AOper.mk (some 5) (.mv (.tmp 1)) none [], AOper.mk (some 6) (.fld 1 (.tmp 2)) none [], AOper.mk (some 7) (.load false 1 (.tmp 6)) none [1], AOper.mk (some 8) (.len (.tmp 7)) none [2], AOper.mk (some 9) (.bin .sub (.tmp 8) (.const (.int .i64 1))) none [3], AOper.mk (some 10) (.call 40 [.tmp 5, .const (.int .i64 0), .tmp 9]) none [0, 4], AOper.mk (some 4) (.mv (.tmp 10)) none [5, 5, 0, 1, 2, 3, 4, 5]]
def l62 : AFn :=
  (AFn.mk 11 2 (ACode.seq (ACode.reg l62r0) (ACode.seq (ACode.reg l62r1) ACode.ret)) [ARes.tmp 4])
theorem l62_eq : lowFn Try.prog 62 = some l62 := by kernel_rfl
def l63r0 : List AOper :=
  [AOper.mk (some 1) (.box (.tmp 0)) none [], AOper.mk (some 2) (.mv (.const (.bool false))) none []]
def l63r1 : List AOper :=
  [AOper.mk (some 3) (.fld 0 (.tmp 1)) none [], AOper.mk (some 4) (.load false 1 (.tmp 3)) none [0], AOper.mk (some 5) (.call 40 [.tmp 4, .const (.int .i64 (-100)), .const (.int .i64 100)]) none [1], AOper.mk (some 6) (.mv (.tmp 5)) none [2, 2], AOper.mk (some 7) (.fld 1 (.tmp 1)) (some (6, true)) [3], AOper.mk (some 8) (.load false 1 (.tmp 7)) (some (6, true)) [4, 3], AOper.mk (some 9) (.call 40 [.tmp 8, .const (.int .i64 (-100)), .const (.int .i64 100)]) (some (6, true)) [5, 3, 3], AOper.mk (some 10) (.pick (.tmp 6) (.tmp 9) (.const (.bool false))) none [3, 6], AOper.mk (some 11) (.mv (.tmp 10)) none [7, 6], AOper.mk (some 12) (.fld 2 (.tmp 1)) (some (11, true)) [8], AOper.mk (some 13) (.load false 1 (.tmp 12)) (some (11, true)) [9, 8], AOper.mk (some 14) (.call 40 [.tmp 13, .const (.int .i64 (-200)), .const (.int .i64 200)]) (some (11, true)) [10, 8, 8], AOper.mk (some 15) (.pick (.tmp 11) (.tmp 14) (.const (.bool false))) none [8, 11], AOper.mk (some 16) (.mv (.tmp 15)) none [12, 11], AOper.mk (some 17) (.fld 2 (.tmp 1)) (some (16, true)) [13], AOper.mk (some 18) (.load false 1 (.tmp 17)) (some (16, true)) [14, 13], AOper.mk (some 19) (.bin .neq (.tmp 18) (.const (.int .i64 0))) (some (16, true)) [15, 13], AOper.mk (some 20) (.pick (.tmp 16) (.tmp 19) (.const (.bool false))) none [13, 16], AOper.mk (some 21) (.mv (.tmp 20)) none [17, 13], AOper.mk (some 22) (.fld 3 (.tmp 1)) (some (21, true)) [18], AOper.mk (some 23) (.load false 1 (.tmp 22)) (some (21, true)) [19, 18], AOper.mk (some 24) (.mv (.tmp 23)) (some (21, true)) [20, 18, 18], AOper.mk (some 25) (.fld 0 (.tmp 1)) (some (24, false)) [21], AOper.mk (some 26) (.load false 1 (.tmp 25)) (some (24, false)) [22, 21], AOper.mk (some 27) (.bin .eql (.tmp 26) (.const (.int .i64 0))) (some (24, false)) [23, 21], AOper.mk (some 28) (.pick (.tmp 24) (.const (.bool true)) (.tmp 27)) (some (21, true)) [21, 24, 18], AOper.mk (some 29) (.pick (.tmp 21) (.tmp 28) (.const (.bool false))) none [18, 25], AOper.mk (some 30) (.mv (.tmp 29)) none [26, 21], AOper.mk (some 31) (.fld 4 (.tmp 1)) (some (30, true)) [27], AOper.mk (some 32) (.load false 1 (.tmp 31)) (some (30, true)) [28, 27], AOper.mk (some 33) (.mv (.tmp 32)) (some (30, true)) [29, 27, 27], AOper.mk (some 34) (.fld 1 (.tmp 1)) (some (33, false)) [30], AOper.mk (some 35) (.load false 1 (.tmp 34)) (some (33, false)) [31, 30], AOper.mk (some 36) (.bin .eql (.tmp 35) (.const (.int .i64 0))) (some (33, false)) [32, 30], AOper.mk (some 37) (.pick (.tmp 33) (.const (.bool true)) (.tmp 36)) (some (30, true)) [30, 33, 27], AOper.mk (some 38) (.pick (.tmp 30) (.tmp 37) (.const (.bool false))) none [27, 34], AOper.mk (some 2) (.mv (.tmp 38)) none [35, 30, 0, 1, 2, 3, 4, 5, 6, 7, 8, 9, 10, 11, 12, 13, 14, 15, 16, 17, 18, 19, 20, 21, 22, 23, 24, 25, 26, 27, 28, 29, 30, 31, 32, 33, 34, 35]]
def l63 : AFn :=
  (AFn.mk 39 1 (ACode.seq (ACode.reg l63r0) (ACode.seq (ACode.reg l63r1) ACode.ret)) [ARes.tmp 2])
theorem l63_eq : lowFn Try.prog 63 = some l63 := by kernel_rfl
def l64r0 : List AOper :=
  [AOper.mk (some 1) (.box (.tmp 0)) none [], AOper.mk (some 2) (.alloc [.int .i64 0, .slice none 0 0, .slice none 0 0]) none [], AOper.mk (some 3) (.mv (.const (.bool false))) none []]
def l64r1 : List AOper :=
  [AOper.mk (some 4) (.load true 3 (.tmp 1)) none [], AOper.mk (some 5) (.call 22 [.tmp 4]) none [0], AOper.mk (some 6) (.un .not (.tmp 5)) none [1]]
def l64r2 : List AOper :=
  [AOper.mk (some 7) (.build [.int .i64 0, .slice none 0 0, .slice none 0 0] []) none [], AOper.mk none (.store 3 (.tmp 2) (.tmp 7)) none [0, 0], AOper.mk (some 3) (.mv (.const (.bool false))) none [1, 0, 1]]
def l64r3 : List AOper :=
  [AOper.mk (some 8) (.load true 3 (.tmp 1)) none [], AOper.mk (some 9) (.call 56 [.tmp 8]) none [0], AOper.mk none (.store 3 (.tmp 2) (.tmp 9)) none [1, 1, 0, 1], AOper.mk (some 3) (.mv (.const (.bool true))) none [2, 0, 1, 2]]
def l64 : AFn :=
  (AFn.mk 10 1 (ACode.seq (ACode.reg l64r0) (ACode.seq (ACode.seq (ACode.reg l64r1) (ACode.cond (.tmp 6) (ACode.seq (ACode.reg l64r2) ACode.ret) ACode.skip)) (ACode.seq (ACode.reg l64r3) ACode.ret))) [ARes.cell 2 true 3, ARes.tmp 3])
theorem l64_eq : lowFn Try.prog 64 = some l64 := by kernel_rfl
def l65r0 : List AOper :=
  [AOper.mk (some 3) (.box (.tmp 0)) none [], AOper.mk (some 5) (.box (.tmp 2)) none [], AOper.mk (some 6) (.alloc [.int .i64 0, .slice none 0 0, .slice none 0 0]) none []]
def l65r1 : List AOper :=
  [AOper.mk (some 10) (.load true 3 (.tmp 3)) none [], AOper.mk (some 11) (.call 56 [.tmp 10]) none [0], AOper.mk (some 7) (.alloc [.int .i64 0, .slice none 0 0, .slice none 0 0]) none [], AOper.mk none (.store 3 (.tmp 7) (.tmp 11)) none [2, 1, 1, 0, 1, 2]]
def l65r2a : List AOper :=
  [AOper.mk (some 12) (.fld 1 (.tmp 3)) none [], AOper.mk (some 13) (.load false 1 (.tmp 12)) none [0], AOper.mk (some 14) (.mv (.tmp 1)) none [], AOper.mk (some 15) (.idxA 1 (.tmp 13) (.tmp 14)) none [1, 2], AOper.mk (some 16) (.load false 1 (.tmp 15)) none [3], AOper.mk (some 17) (.load true 5 (.tmp 5)) none [], AOper.mk (some 18) (.call 70 [.tmp 16, .tmp 17]) none [4, 5], AOper.mk (some 19) (.call 69 [.tmp 18]) none [6, 6], AOper.mk (some 8) (.alloc [.int .i64 0, .int .i64 0, .int .i64 0]) none []]
def l65r2b : List AOper :=
  [AOper.mk none (.store 3 (.tmp 8) (.tmp 19)) none [8, 7, 7, 0, 1, 2, 3, 4, 5, 6, 7, 8]]
def l65r2 : List AOper := l65r2a ++ l65r2b
def l65r3 : List AOper :=
  [AOper.mk (some 20) (.load true 3 (.tmp 8)) none [], AOper.mk (some 21) (.call 71 [.tmp 20]) none [0], AOper.mk (some 9) (.mv (.tmp 21)) none [1, 1, 0, 1]]
def l65r4 : List AOper :=
  [AOper.mk (some 22) (.fld 1 (.tmp 7)) none [], AOper.mk (some 23) (.load false 1 (.tmp 22)) none [0], AOper.mk (some 24) (.mv (.tmp 1)) none [], AOper.mk (some 25) (.mv (.tmp 9)) none [], AOper.mk (some 26) (.len (.tmp 25)) none [3], AOper.mk (some 27) (.idxA 1 (.tmp 23) (.tmp 24)) none [1, 2, 0, 1, 2, 3, 4], AOper.mk none (.store 1 (.tmp 27) (.tmp 26)) none [5, 4, 0, 1, 2, 3, 4]]
def l65r5a : List AOper :=
  [AOper.mk (some 28) (.fld 0 (.tmp 3)) none [], AOper.mk (some 29) (.load false 1 (.tmp 28)) none [0], AOper.mk (some 30) (.fld 0 (.tmp 8)) none [], AOper.mk (some 31) (.load false 1 (.tmp 30)) none [2], AOper.mk (some 32) (.fld 2 (.tmp 3)) none [], AOper.mk (some 33) (.load false 1 (.tmp 32)) none [4], AOper.mk (some 34) (.mv (.tmp 1)) none [], AOper.mk (some 35) (.idxA 1 (.tmp 33) (.tmp 34)) none [5, 6], AOper.mk (some 36) (.load false 1 (.tmp 35)) none [7], AOper.mk (some 37) (.bin .mul (.tmp 31) (.tmp 36)) none [3, 8]]
def l65r5b : List AOper :=
  [AOper.mk (some 38) (.bin .add (.tmp 29) (.tmp 37)) none [1, 9], AOper.mk (some 39) (.fld 0 (.tmp 7)) none [0, 1, 2, 3, 4, 5, 6, 7, 8, 9, 10], AOper.mk none (.store 1 (.tmp 39) (.tmp 38)) none [11, 10, 0, 1, 2, 3, 4, 5, 6, 7, 8, 9, 10]]
def l65r5 : List AOper := l65r5a ++ l65r5b
def l65r6a : List AOper :=
  [AOper.mk (some 40) (.fld 2 (.tmp 7)) none [], AOper.mk (some 41) (.load false 1 (.tmp 40)) none [0], AOper.mk (some 42) (.mv (.tmp 1)) none [], AOper.mk (some 43) (.fld 2 (.tmp 8)) none [], AOper.mk (some 44) (.load false 1 (.tmp 43)) none [3], AOper.mk (some 45) (.fld 2 (.tmp 3)) none [], AOper.mk (some 46) (.load false 1 (.tmp 45)) none [5], AOper.mk (some 47) (.mv (.tmp 1)) none [], AOper.mk (some 48) (.idxA 1 (.tmp 46) (.tmp 47)) none [6, 7], AOper.mk (some 49) (.load false 1 (.tmp 48)) none [8], AOper.mk (some 50) (.bin .mul (.tmp 44) (.tmp 49)) none [4, 9]]
def l65r6b : List AOper :=
  [AOper.mk (some 51) (.idxA 1 (.tmp 41) (.tmp 42)) none [1, 2, 0, 1, 2, 3, 4, 5, 6, 7, 8, 9, 10], AOper.mk none (.store 1 (.tmp 51) (.tmp 50)) none [11, 10, 0, 1, 2, 3, 4, 5, 6, 7, 8, 9, 10]]
def l65r6 : List AOper := l65r6a ++ l65r6b
def l65r7 : List AOper :=
  [AOper.mk (some 52) (.mv (.tmp 9)) none [], AOper.mk (some 53) (.len (.tmp 52)) none [0], AOper.mk (some 54) (.bin .leq (.tmp 53) (.const (.int .i64 1))) none [1]]
def l65r8 : List AOper :=
  [AOper.mk (some 55) (.fld 2 (.tmp 7)) none [], AOper.mk (some 56) (.load false 1 (.tmp 55)) none [0], AOper.mk (some 57) (.mv (.tmp 1)) none [], AOper.mk (some 58) (.idxA 1 (.tmp 56) (.tmp 57)) none [1, 2, 0, 1, 2], AOper.mk none (.store 1 (.tmp 58) (.const (.int .i64 0))) none [3, 0, 1, 2]]
def l65r9 : List AOper :=
  [AOper.mk (some 59) (.load true 3 (.tmp 7)) none [], AOper.mk (some 60) (.call 72 [.tmp 59]) none [0], AOper.mk none (.store 3 (.tmp 6) (.tmp 60)) none [1, 1, 0, 1]]
def l65 : AFn :=
  (AFn.mk 61 3 (ACode.seq (ACode.reg l65r0) (ACode.seq (ACode.reg l65r1) (ACode.seq (ACode.draw l65r2) (ACode.seq (ACode.reg l65r3) (ACode.seq (ACode.reg l65r4) (ACode.seq (ACode.draw l65r5) (ACode.seq (ACode.draw l65r6) (ACode.seq (ACode.seq (ACode.reg l65r7) (ACode.cond (.tmp 54) (ACode.reg l65r8) ACode.skip)) (ACode.seq (ACode.reg l65r9) ACode.ret))))))))) [ARes.cell 6 true 3])
theorem l65_eq : lowFn Try.prog 65 = some l65 := by kernel_rfl
def l66r0 : List AOper :=
  [AOper.mk (some 4) (.mv (.const (.bool false))) none []]
def l66r1 : List AOper :=
  [AOper.mk (some 5) (.mv (.tmp 0)) none [], AOper.mk (some 6) (.len (.tmp 5)) none [0], AOper.mk (some 7) (.mv (.tmp 1)) none [], AOper.mk (some 8) (.bin .eql (.tmp 6) (.tmp 7)) none [1, 2], AOper.mk (some 9) (.mv (.tmp 8)) none [3], AOper.mk (some 10) (.mv (.tmp 0)) (some (9, true)) [4], AOper.mk (some 11) (.mv (.tmp 1)) (some (9, true)) [4], AOper.mk (some 12) (.bin .sub (.tmp 11) (.const (.int .i64 1))) (some (9, true)) [6, 4], AOper.mk (some 13) (.call 39 [.tmp 10, .const (.int .i64 0), .tmp 12]) (some (9, true)) [5, 7, 4, 4], AOper.mk (some 14) (.pick (.tmp 9) (.tmp 13) (.const (.bool false))) none [4, 8], AOper.mk (some 15) (.mv (.tmp 14)) none [9, 8], AOper.mk (some 16) (.mv (.tmp 0)) (some (15, true)) [10], AOper.mk (some 17) (.call 73 [.tmp 16]) (some (15, true)) [11, 10, 10], AOper.mk (some 18) (.pick (.tmp 15) (.tmp 17) (.const (.bool false))) none [10, 12], AOper.mk (some 4) (.mv (.tmp 18)) none [13, 12, 0, 1, 2, 3, 4, 5, 6, 7, 8, 9, 10, 11, 12, 13]]
def l66 : AFn :=
  (AFn.mk 19 2 (ACode.seq (ACode.reg l66r0) (ACode.seq (ACode.reg l66r1) ACode.ret)) [ARes.tmp 4])
theorem l66_eq : lowFn Try.prog 66 = some l66 := by kernel_rfl
def l67r0 : List AOper :=
  [AOper.mk (some 2) (.box (.tmp 0)) none [], AOper.mk (some 4) (.alloc [.int .i64 0, .slice none 0 0, .slice none 0 0]) none []]
def l67r1 : List AOper :=
  [AOper.mk (some 7) (.fld 0 (.tmp 2)) none [], AOper.mk (some 8) (.load false 1 (.tmp 7)) none [0], AOper.mk (some 9) (.build [.int .i64 0, .slice none 0 0, .slice none 0 0] [(0, 1, .tmp 8)]) none [1], AOper.mk (some 5) (.alloc [.int .i64 0, .slice none 0 0, .slice none 0 0]) none [], AOper.mk none (.store 3 (.tmp 5) (.tmp 9)) none [3, 2, 0, 1, 2, 3]]
def l67r2 : List AOper :=
  [AOper.mk (some 6) (.mv (.const (.int .i64 0))) none []]
def l67r3 : List AOper :=
  [AOper.mk (some 10) (.mv (.tmp 6)) none [], AOper.mk (some 11) (.mv (.tmp 1)) none [], AOper.mk (some 12) (.len (.tmp 11)) none [1], AOper.mk (some 13) (.bin .lss (.tmp 10) (.tmp 12)) none [0, 2]]
def l67r4a : List AOper :=
  [AOper.mk (some 16) (.fld 1 (.tmp 5)) none [], AOper.mk (some 17) (.load false 1 (.tmp 16)) none [0], AOper.mk (some 18) (.fld 1 (.tmp 2)) none [], AOper.mk (some 19) (.load false 1 (.tmp 18)) none [2], AOper.mk (some 20) (.mv (.tmp 1)) none [], AOper.mk (some 21) (.mv (.tmp 6)) none [], AOper.mk (some 22) (.idxA 1 (.tmp 20) (.tmp 21)) none [4, 5], AOper.mk (some 23) (.load false 1 (.tmp 22)) none [6], AOper.mk (some 24) (.idxA 1 (.tmp 19) (.tmp 23)) none [3, 7], AOper.mk (some 25) (.load false 1 (.tmp 24)) none [8], AOper.mk (some 26) (.bslice 1 [.int .i64 0] [(0, .tmp 25)] 1) none [9]]
def l67r4b : List AOper :=
  [AOper.mk (some 27) (.append 1 (.tmp 17) (.tmp 26)) none [1, 10], AOper.mk (some 28) (.fld 1 (.tmp 5)) none [0, 1, 2, 3, 4, 5, 6, 7, 8, 9, 10, 11], AOper.mk none (.store 1 (.tmp 28) (.tmp 27)) none [12, 11, 11, 0, 1, 2, 3, 4, 5, 6, 7, 8, 9, 10, 11]]
def l67r4 : List AOper := l67r4a ++ l67r4b
def l67r5a : List AOper :=
  [AOper.mk (some 29) (.fld 2 (.tmp 5)) none [], AOper.mk (some 30) (.load false 1 (.tmp 29)) none [0], AOper.mk (some 31) (.fld 2 (.tmp 2)) none [], AOper.mk (some 32) (.load false 1 (.tmp 31)) none [2], AOper.mk (some 33) (.mv (.tmp 1)) none [], AOper.mk (some 34) (.mv (.tmp 6)) none [], AOper.mk (some 35) (.idxA 1 (.tmp 33) (.tmp 34)) none [4, 5], AOper.mk (some 36) (.load false 1 (.tmp 35)) none [6], AOper.mk (some 37) (.idxA 1 (.tmp 32) (.tmp 36)) none [3, 7], AOper.mk (some 38) (.load false 1 (.tmp 37)) none [8], AOper.mk (some 39) (.bslice 1 [.int .i64 0] [(0, .tmp 38)] 1) none [9]]
def l67r5b : List AOper :=
  [AOper.mk (some 40) (.append 1 (.tmp 30) (.tmp 39)) none [1, 10], AOper.mk (some 41) (.fld 2 (.tmp 5)) none [0, 1, 2, 3, 4, 5, 6, 7, 8, 9, 10, 11], AOper.mk none (.store 1 (.tmp 41) (.tmp 40)) none [12, 11, 11, 0, 1, 2, 3, 4, 5, 6, 7, 8, 9, 10, 11]]
def l67r5 : List AOper := l67r5a ++ l67r5b
def l67r6 : List AOper :=
  [AOper.mk (some 14) (.mv (.tmp 6)) none [], AOper.mk (some 15) (.bin .add (.tmp 14) (.const (.int .i64 1))) none [0], AOper.mk (some 6) (.mv (.tmp 15)) none [1, 0, 1]]
def l67r7 : List AOper :=
  [AOper.mk (some 42) (.load true 3 (.tmp 5)) none [], AOper.mk none (.store 3 (.tmp 4) (.tmp 42)) none [0, 0]]
def l67 : AFn :=
  (AFn.mk 43 2 (ACode.seq (ACode.reg l67r0) (ACode.seq (ACode.reg l67r1) (ACode.seq (ACode.seq (ACode.reg l67r2) (ACode.block 0 (ACode.loop (ACode.seq (ACode.seq (ACode.reg l67r3) (ACode.cond (.tmp 13) ACode.skip (ACode.exit 0))) (ACode.seq (ACode.block 1 (ACode.seq (ACode.draw l67r4) (ACode.draw l67r5))) (ACode.reg l67r6)))))) (ACode.seq (ACode.reg l67r7) ACode.ret)))) [ARes.cell 4 true 3])
theorem l67_eq : lowFn Try.prog 67 = some l67 := by kernel_rfl
def l68r0 : List AOper :=
  [AOper.mk (some 6) (.mv (.const (.slice none 0 0))) none []]
def l68r1a : List AOper :=
  [AOper.mk (some 7) (.bslice 1 [.int .i64 0] [] 0) none [], AOper.mk (some 8) (.mv (.tmp 0)) none [], AOper.mk (some 9) (.mv (.tmp 1)) none [], AOper.mk (some 10) (.slice 1 (.tmp 8) none (some (.tmp 9))) none [1, 2], AOper.mk (some 11) (.append 1 (.tmp 7) (.tmp 10)) none [0, 3], AOper.mk (some 12) (.mv (.tmp 2)) none [], AOper.mk (some 13) (.bslice 1 [.int .i64 0] [(0, .tmp 12)] 1) none [5], AOper.mk (some 14) (.append 1 (.tmp 11) (.tmp 13)) none [4, 6, 4], AOper.mk (some 15) (.mv (.tmp 0)) none [], AOper.mk (some 16) (.mv (.tmp 1)) none [], AOper.mk (some 17) (.slice 1 (.tmp 15) (some (.tmp 16)) none) none [8, 9]]
def l68r1b : List AOper :=
  [AOper.mk (some 18) (.append 1 (.tmp 14) (.tmp 17)) none [7, 10, 7], AOper.mk (some 6) (.mv (.tmp 18)) none [11, 11, 0, 1, 2, 3, 4, 5, 6, 7, 8, 9, 10, 11]]
def l68r1 : List AOper := l68r1a ++ l68r1b
def l68 : AFn :=
  (AFn.mk 19 3 (ACode.seq (ACode.reg l68r0) (ACode.seq (ACode.draw l68r1) ACode.ret)) [ARes.tmp 6])
theorem l68_eq : lowFn Try.prog 68 = some l68 := by kernel_rfl
def l69r0 : List AOper :=
  [AOper.mk (some 2) (.alloc [.int .i64 0, .int .i64 0, .int .i64 0]) none []]
def l69r1 : List AOper :=
  [AOper.mk (some 5) (.mv (.tmp 0)) none [], AOper.mk (some 6) (.len (.tmp 5)) none [0]]
def l69r2 : List AOper :=
  [AOper.mk (some 8) (.bin .eql (.tmp 6) (.const (.int .i64 0))) none [], AOper.mk (some 7) (.mv (.tmp 8)) none [0]]
def l69r3 : List AOper :=
  [AOper.mk (some 9) (.build [.int .i64 0, .int .i64 0, .int .i64 0] [(0, 1, .const (.int .i64 0)), (1, 1, .const (.int .i64 0)), (2, 1, .const (.int .i64 1))]) none [], AOper.mk none (.store 3 (.tmp 2) (.tmp 9)) none [0, 0]]
def l69r4 : List AOper :=
  [AOper.mk (some 11) (.bin .eql (.tmp 6) (.const (.int .i64 1))) none [], AOper.mk (some 10) (.mv (.tmp 11)) none [0]]
def l69r5a : List AOper :=
  [AOper.mk (some 12) (.mv (.tmp 0)) none [], AOper.mk (some 13) (.idxA 1 (.tmp 12) (.const (.int .i64 0))) none [0], AOper.mk (some 14) (.load false 1 (.tmp 13)) none [1], AOper.mk (some 15) (.mv (.tmp 0)) none [], AOper.mk (some 16) (.idxA 1 (.tmp 15) (.const (.int .i64 0))) none [3], AOper.mk (some 17) (.load false 1 (.tmp 16)) none [4], AOper.mk (some 18) (.bin .add (.tmp 17) (.const (.int .i64 1))) none [5]]
def l69r5b : List AOper :=
  [AOper.mk (some 19) (.build [.int .i64 0, .int .i64 0, .int .i64 0] [(0, 1, .tmp 14), (1, 1, .tmp 18), (2, 1, .const (.int .i64 1))]) none [2, 6], AOper.mk none (.store 3 (.tmp 2) (.tmp 19)) none [7, 0, 1, 2, 3, 4, 5, 6, 7]]
def l69r5 : List AOper := l69r5a ++ l69r5b
def l69r6a : List AOper :=
  [AOper.mk (some 20) (.mv (.tmp 0)) none [], AOper.mk (some 21) (.idxA 1 (.tmp 20) (.const (.int .i64 1))) none [0], AOper.mk (some 22) (.load false 1 (.tmp 21)) none [1], AOper.mk (some 23) (.mv (.tmp 0)) none [], AOper.mk (some 24) (.idxA 1 (.tmp 23) (.const (.int .i64 0))) none [3], AOper.mk (some 25) (.load false 1 (.tmp 24)) none [4]]
def l69r6b : List AOper :=
  [AOper.mk (some 26) (.bin .sub (.tmp 22) (.tmp 25)) none [2, 5], AOper.mk (some 3) (.mv (.tmp 26)) none [6, 0, 1, 2, 3, 4, 5, 6]]
def l69r6 : List AOper := l69r6a ++ l69r6b
def l69r7 : List AOper :=
  [AOper.mk (some 27) (.mv (.tmp 0)) none [], AOper.mk (some 28) (.mv (.tmp 0)) none [], AOper.mk (some 29) (.len (.tmp 28)) none [1], AOper.mk (some 30) (.bin .sub (.tmp 29) (.const (.int .i64 1))) none [2], AOper.mk (some 31) (.idxA 1 (.tmp 27) (.tmp 30)) none [0, 3], AOper.mk (some 32) (.load false 1 (.tmp 31)) none [4], AOper.mk (some 33) (.bin .add (.tmp 32) (.const (.int .i64 1))) none [5], AOper.mk (some 4) (.mv (.tmp 33)) none [6, 0, 1, 2, 3, 4, 5, 6]]
def l69r8 : List AOper :=
  [AOper.mk (some 34) (.mv (.tmp 3)) none [], AOper.mk (some 35) (.bin .lss (.tmp 34) (.const (.int .i64 0))) none [0]]
def l69r9 : List AOper :=
  [AOper.mk (some 36) (.mv (.tmp 0)) none [], AOper.mk (some 37) (.mv (.tmp 0)) none [], AOper.mk (some 38) (.len (.tmp 37)) none [1], AOper.mk (some 39) (.bin .sub (.tmp 38) (.const (.int .i64 1))) none [2], AOper.mk (some 40) (.idxA 1 (.tmp 36) (.tmp 39)) none [0, 3], AOper.mk (some 41) (.load false 1 (.tmp 40)) none [4], AOper.mk (some 42) (.bin .sub (.tmp 41) (.const (.int .i64 1))) none [5], AOper.mk (some 4) (.mv (.tmp 42)) none [6, 0, 1, 2, 3, 4, 5, 6]]
def l69r10 : List AOper :=
  [AOper.mk (some 43) (.mv (.tmp 0)) none [], AOper.mk (some 44) (.idxA 1 (.tmp 43) (.const (.int .i64 0))) none [0], AOper.mk (some 45) (.load false 1 (.tmp 44)) none [1], AOper.mk (some 46) (.mv (.tmp 4)) none [], AOper.mk (some 47) (.mv (.tmp 3)) none [], AOper.mk (some 48) (.build [.int .i64 0, .int .i64 0, .int .i64 0] [(0, 1, .tmp 45), (1, 1, .tmp 46), (2, 1, .tmp 47)]) none [2, 3, 4], AOper.mk none (.store 3 (.tmp 2) (.tmp 48)) none [5, 0, 1, 2, 3, 4, 5]]
def l69 : AFn :=
  (AFn.mk 49 1 (ACode.seq (ACode.reg l69r0) (ACode.seq (ACode.seq (ACode.reg l69r1) (ACode.block 0 (ACode.seq (ACode.reg l69r2) (ACode.cond (.tmp 7) (ACode.seq (ACode.reg l69r3) ACode.ret) (ACode.seq (ACode.reg l69r4) (ACode.cond (.tmp 10) (ACode.seq (ACode.draw l69r5) ACode.ret) ACode.skip)))))) (ACode.seq (ACode.draw l69r6) (ACode.seq (ACode.reg l69r7) (ACode.seq (ACode.seq (ACode.reg l69r8) (ACode.cond (.tmp 35) (ACode.reg l69r9) ACode.skip)) (ACode.seq (ACode.reg l69r10) ACode.ret)))))) [ARes.cell 2 true 3])
theorem l69_eq : lowFn Try.prog 69 = some l69 := by kernel_rfl
def l70r0 : List AOper :=
  [AOper.mk (some 3) (.box (.tmp 1)) none [], AOper.mk (some 4) (.mv (.const (.slice none 0 0))) none []]
def l70r1 : List AOper :=
  [AOper.mk (some 5) (.mv (.const (.int .i64 0))) none []]
def l70r2 : List AOper :=
  [AOper.mk (some 7) (.mv (.tmp 0)) none [], AOper.mk (some 6) (.mv (.tmp 7)) none [0, 0]]
def l70r3 : List AOper :=
  [AOper.mk (some 8) (.fld 2 (.tmp 3)) none [], AOper.mk (some 9) (.load false 1 (.tmp 8)) none [0], AOper.mk (some 10) (.bin .lss (.tmp 9) (.const (.int .i64 0))) none [1]]
def l70r4 : List AOper :=
  [AOper.mk (some 11) (.mv (.tmp 0)) none [], AOper.mk (some 12) (.bin .sub (.tmp 11) (.const (.int .i64 1))) none [0], AOper.mk (some 5) (.mv (.tmp 12)) none [1, 0, 1]]
def l70r5 : List AOper :=
  [AOper.mk (some 6) (.mv (.const (.int .i64 (-1)))) none []]
def l70r6 : List AOper :=
  [AOper.mk (some 13) (.fld 3 (.tmp 3)) none [], AOper.mk (some 14) (.load false 1 (.tmp 13)) none [0]]
def l70r7 : List AOper :=
  [AOper.mk (some 15) (.mv (.tmp 0)) none [], AOper.mk (some 16) (.fld 0 (.tmp 3)) none [], AOper.mk (some 17) (.load false 1 (.tmp 16)) none [1], AOper.mk (some 18) (.fld 2 (.tmp 3)) none [], AOper.mk (some 19) (.load false 1 (.tmp 18)) none [3], AOper.mk (some 20) (.call 74 [.tmp 15, .tmp 17, .tmp 19]) none [0, 2, 4], AOper.mk (some 5) (.mv (.tmp 20)) none [5, 5, 0, 1, 2, 3, 4, 5]]
def l70r8 : List AOper :=
  [AOper.mk (some 21) (.fld 4 (.tmp 3)) none [], AOper.mk (some 22) (.load false 1 (.tmp 21)) none [0]]
def l70r9 : List AOper :=
  [AOper.mk (some 23) (.mv (.tmp 0)) none [], AOper.mk (some 24) (.fld 1 (.tmp 3)) none [], AOper.mk (some 25) (.load false 1 (.tmp 24)) none [1], AOper.mk (some 26) (.fld 2 (.tmp 3)) none [], AOper.mk (some 27) (.load false 1 (.tmp 26)) none [3], AOper.mk (some 28) (.call 74 [.tmp 23, .tmp 25, .tmp 27]) none [0, 2, 4], AOper.mk (some 6) (.mv (.tmp 28)) none [5, 5, 0, 1, 2, 3, 4, 5]]
def l70r10 : List AOper :=
  [AOper.mk (some 29) (.mv (.tmp 5)) none [], AOper.mk (some 30) (.mv (.tmp 6)) none [], AOper.mk (some 31) (.fld 2 (.tmp 3)) none [], AOper.mk (some 32) (.load false 1 (.tmp 31)) none [2], AOper.mk (some 33) (.build [.int .i64 0, .int .i64 0, .int .i64 0] [(0, 1, .tmp 29), (1, 1, .tmp 30), (2, 1, .tmp 32)]) none [0, 1, 3], AOper.mk (some 34) (.call 71 [.tmp 33]) none [4], AOper.mk (some 4) (.mv (.tmp 34)) none [5, 5, 0, 1, 2, 3, 4, 5]]
def l70 : AFn :=
  (AFn.mk 35 2 (ACode.seq (ACode.reg l70r0) (ACode.seq (ACode.reg l70r1) (ACode.seq (ACode.reg l70r2) (ACode.seq (ACode.seq (ACode.reg l70r3) (ACode.cond (.tmp 10) (ACode.seq (ACode.reg l70r4) (ACode.reg l70r5)) ACode.skip)) (ACode.seq (ACode.seq (ACode.reg l70r6) (ACode.cond (.tmp 14) (ACode.reg l70r7) ACode.skip)) (ACode.seq (ACode.seq (ACode.reg l70r8) (ACode.cond (.tmp 22) (ACode.reg l70r9) ACode.skip)) (ACode.seq (ACode.reg l70r10) ACode.ret))))))) [ARes.tmp 4])
theorem l70_eq : lowFn Try.prog 70 = some l70 := by kernel_rfl
def l71r0 : List AOper :=
  [AOper.mk (some 1) (.box (.tmp 0)) none [], AOper.mk (some 2) (.mv (.const (.slice none 0 0))) none []]
def l71r1 : List AOper :=
  [AOper.mk (some 5) (.bslice 1 [.int .i64 0] [] 0) none [], AOper.mk (some 3) (.mv (.tmp 5)) none [0, 0]]
def l71r2 : List AOper :=
  [AOper.mk (some 6) (.fld 0 (.tmp 1)) none [], AOper.mk (some 7) (.load false 1 (.tmp 6)) none [0], AOper.mk (some 4) (.mv (.tmp 7)) none [1, 0, 1]]
def l71r3 : List AOper :=
  [AOper.mk (some 8) (.fld 2 (.tmp 1)) none [], AOper.mk (some 9) (.load false 1 (.tmp 8)) none [0], AOper.mk (some 10) (.bin .gtr (.tmp 9) (.const (.int .i64 0))) none [1], AOper.mk (some 11) (.mv (.tmp 10)) none [2], AOper.mk (some 12) (.mv (.tmp 4)) (some (11, true)) [3], AOper.mk (some 13) (.fld 1 (.tmp 1)) (some (11, true)) [3], AOper.mk (some 14) (.load false 1 (.tmp 13)) (some (11, true)) [5, 3], AOper.mk (some 15) (.bin .lss (.tmp 12) (.tmp 14)) (some (11, true)) [4, 6, 3], AOper.mk (some 16) (.pick (.tmp 11) (.tmp 15) (.const (.bool false))) none [3, 7], AOper.mk (some 17) (.mv (.tmp 16)) none [8, 3], AOper.mk (some 18) (.fld 2 (.tmp 1)) (some (17, false)) [9], AOper.mk (some 19) (.load false 1 (.tmp 18)) (some (17, false)) [10, 9], AOper.mk (some 20) (.bin .lss (.tmp 19) (.const (.int .i64 0))) (some (17, false)) [11, 9], AOper.mk (some 21) (.mv (.tmp 20)) (some (17, false)) [12, 9, 9], AOper.mk (some 22) (.mv (.tmp 4)) (some (21, true)) [13], AOper.mk (some 23) (.fld 1 (.tmp 1)) (some (21, true)) [13], AOper.mk (some 24) (.load false 1 (.tmp 23)) (some (21, true)) [15, 13], AOper.mk (some 25) (.bin .gtr (.tmp 22) (.tmp 24)) (some (21, true)) [14, 16, 13], AOper.mk (some 26) (.pick (.tmp 21) (.tmp 25) (.const (.bool false))) (some (17, false)) [13, 17, 9], AOper.mk (some 27) (.pick (.tmp 17) (.const (.bool true)) (.tmp 26)) none [9, 18]]
def l71r4 : List AOper :=
  [AOper.mk (some 32) (.mv (.tmp 3)) none [], AOper.mk (some 33) (.mv (.tmp 4)) none [], AOper.mk (some 34) (.bslice 1 [.int .i64 0] [(0, .tmp 33)] 1) none [1], AOper.mk (some 35) (.append 1 (.tmp 32) (.tmp 34)) none [0, 2], AOper.mk (some 3) (.mv (.tmp 35)) none [3, 3, 0, 1, 2, 3]]
def l71r5 : List AOper :=
  [AOper.mk (some 28) (.mv (.tmp 4)) none [], AOper.mk (some 29) (.fld 2 (.tmp 1)) none [], AOper.mk (some 30) (.load false 1 (.tmp 29)) none [1], AOper.mk (some 31) (.bin .add (.tmp 28) (.tmp 30)) none [0, 2], AOper.mk (some 4) (.mv (.tmp 31)) none [3, 0, 1, 2, 3]]
def l71r6 : List AOper :=
  [AOper.mk (some 36) (.mv (.tmp 3)) none [], AOper.mk (some 2) (.mv (.tmp 36)) none [0, 0]]
def l71 : AFn :=
  (AFn.mk 37 1 (ACode.seq (ACode.reg l71r0) (ACode.seq (ACode.reg l71r1) (ACode.seq (ACode.seq (ACode.reg l71r2) (ACode.block 0 (ACode.loop (ACode.seq (ACode.seq (ACode.reg l71r3) (ACode.cond (.tmp 27) ACode.skip (ACode.exit 0))) (ACode.seq (ACode.block 1 (ACode.reg l71r4)) (ACode.reg l71r5)))))) (ACode.seq (ACode.reg l71r6) ACode.ret)))) [ARes.tmp 2])
theorem l71_eq : lowFn Try.prog 71 = some l71 := by kernel_rfl
def l72r0 : List AOper :=
  [AOper.mk (some 1) (.box (.tmp 0)) none [], AOper.mk (some 2) (.alloc [.int .i64 0, .slice none 0 0, .slice none 0 0]) none []]
def l72r1 : List AOper :=
  [AOper.mk (some 3) (.fld 1 (.tmp 1)) none [], AOper.mk (some 4) (.load false 1 (.tmp 3)) none [0], AOper.mk (some 5) (.call 41 [.tmp 4]) none [1], AOper.mk (some 6) (.bin .eql (.tmp 5) (.const (.int .i64 0))) none [2]]
def l72r2a : List AOper :=
  [AOper.mk (some 7) (.fld 1 (.tmp 1)) none [], AOper.mk (some 8) (.load false 1 (.tmp 7)) none [0], AOper.mk (some 9) (.fld 1 (.tmp 1)) none [], AOper.mk (some 10) (.load false 1 (.tmp 9)) none [2], AOper.mk (some 11) (.len (.tmp 10)) none [3], AOper.mk (some 12) (.mkslice 1 [.int .i64 0] (.tmp 11) (.tmp 11)) none [4, 4]]
def l72r2b : List AOper :=
  [AOper.mk (some 13) (.build [.int .i64 0, .slice none 0 0, .slice none 0 0] [(1, 1, .tmp 8), (2, 1, .tmp 12)]) none [1, 5], AOper.mk none (.store 3 (.tmp 2) (.tmp 13)) none [6, 0, 1, 2, 3, 4, 5, 6]]
def l72r2 : List AOper := l72r2a ++ l72r2b
def l72r3 : List AOper :=
  [AOper.mk (some 14) (.load true 3 (.tmp 1)) none [], AOper.mk none (.store 3 (.tmp 2) (.tmp 14)) none [0, 0]]
def l72 : AFn :=
  (AFn.mk 15 1 (ACode.seq (ACode.reg l72r0) (ACode.seq (ACode.seq (ACode.reg l72r1) (ACode.cond (.tmp 6) (ACode.seq (ACode.draw l72r2) ACode.ret) ACode.skip)) (ACode.seq (ACode.reg l72r3) ACode.ret))) [ARes.cell 2 true 3])
theorem l72_eq : lowFn Try.prog 72 = some l72 := by kernel_rfl
def l73r0 : List AOper :=
  [AOper.mk (some 2) (.mv (.const (.bool false))) none []]
def l73r1 : List AOper :=
  [AOper.mk (some 3) (.mv (.const (.int .i64 0))) none []]
def l73r2 : List AOper :=
  [AOper.mk (some 4) (.mv (.tmp 3)) none [], AOper.mk (some 5) (.mv (.tmp 0)) none [], AOper.mk (some 6) (.len (.tmp 5)) none [1], AOper.mk (some 7) (.bin .lss (.tmp 4) (.tmp 6)) none [0, 2]]
def l73r3a : List AOper :=
  [AOper.mk (some 10) (.mv (.tmp 0)) none [], AOper.mk (some 11) (.mv (.tmp 3)) none [], AOper.mk (some 12) (.slice 1 (.tmp 10) none (some (.tmp 11))) none [0, 1], AOper.mk (some 13) (.mv (.tmp 0)) none [], AOper.mk (some 14) (.mv (.tmp 3)) none [], AOper.mk (some 15) (.idxA 1 (.tmp 13) (.tmp 14)) none [3, 4], AOper.mk (some 16) (.load false 1 (.tmp 15)) none [5]]
def l73r3b : List AOper :=
  [AOper.mk (some 17) (.call 75 [.tmp 12, .tmp 16]) none [2, 6], AOper.mk (some 18) (.bin .geq (.tmp 17) (.const (.int .i64 0))) none [7]]
def l73r3 : List AOper := l73r3a ++ l73r3b
def l73r4 : List AOper :=
  [AOper.mk (some 2) (.mv (.const (.bool false))) none []]
def l73r5 : List AOper :=
  [AOper.mk (some 8) (.mv (.tmp 3)) none [], AOper.mk (some 9) (.bin .add (.tmp 8) (.const (.int .i64 1))) none [0], AOper.mk (some 3) (.mv (.tmp 9)) none [1, 0, 1]]
def l73r6 : List AOper :=
  [AOper.mk (some 2) (.mv (.const (.bool true))) none []]
def l73 : AFn :=
  (AFn.mk 19 1 (ACode.seq (ACode.reg l73r0) (ACode.seq (ACode.seq (ACode.reg l73r1) (ACode.block 0 (ACode.loop (ACode.seq (ACode.seq (ACode.reg l73r2) (ACode.cond (.tmp 7) ACode.skip (ACode.exit 0))) (ACode.seq (ACode.block 1 (ACode.seq (ACode.draw l73r3) (ACode.cond (.tmp 18) (ACode.seq (ACode.reg l73r4) ACode.ret) ACode.skip))) (ACode.reg l73r5)))))) (ACode.seq (ACode.reg l73r6) ACode.ret))) [ARes.tmp 2])
theorem l73_eq : lowFn Try.prog 73 = some l73 := by kernel_rfl
def l74r0 : List AOper :=
  [AOper.mk (some 6) (.mv (.const (.int .i64 0))) none []]
def l74r1 : List AOper :=
  [AOper.mk (some 7) (.mv (.const (.int .i64 0))) none []]
def l74r2 : List AOper :=
  [AOper.mk (some 9) (.mv (.tmp 0)) none [], AOper.mk (some 8) (.mv (.tmp 9)) none [0, 0]]
def l74r3 : List AOper :=
  [AOper.mk (some 10) (.mv (.tmp 2)) none [], AOper.mk (some 11) (.bin .lss (.tmp 10) (.const (.int .i64 0))) none [0]]
def l74r4 : List AOper :=
  [AOper.mk (some 7) (.mv (.const (.int .i64 (-1)))) none []]
def l74r5 : List AOper :=
  [AOper.mk (some 12) (.mv (.tmp 0)) none [], AOper.mk (some 13) (.bin .sub (.tmp 12) (.const (.int .i64 1))) none [0], AOper.mk (some 8) (.mv (.tmp 13)) none [1, 0, 1]]
def l74r6 : List AOper :=
  [AOper.mk (some 14) (.mv (.tmp 1)) none [], AOper.mk (some 15) (.bin .lss (.tmp 14) (.const (.int .i64 0))) none [0]]
def l74r7 : List AOper :=
  [AOper.mk (some 16) (.mv (.tmp 1)) none [], AOper.mk (some 17) (.mv (.tmp 0)) none [], AOper.mk (some 18) (.bin .add (.tmp 16) (.tmp 17)) none [0, 1], AOper.mk (some 1) (.mv (.tmp 18)) none [2, 0, 1, 2]]
def l74r8 : List AOper :=
  [AOper.mk (some 19) (.mv (.tmp 8)) none [], AOper.mk (some 20) (.mv (.tmp 7)) none [], AOper.mk (some 21) (.mv (.tmp 1)) none [], AOper.mk (some 22) (.minmax true (.tmp 20) (.tmp 21)) none [1, 2], AOper.mk (some 23) (.minmax false (.tmp 19) (.tmp 22)) none [0, 3], AOper.mk (some 6) (.mv (.tmp 23)) none [4, 0, 1, 2, 3, 4]]
def l74 : AFn :=
  (AFn.mk 24 3 (ACode.seq (ACode.reg l74r0) (ACode.seq (ACode.reg l74r1) (ACode.seq (ACode.reg l74r2) (ACode.seq (ACode.seq (ACode.reg l74r3) (ACode.cond (.tmp 11) (ACode.seq (ACode.reg l74r4) (ACode.reg l74r5)) ACode.skip)) (ACode.seq (ACode.seq (ACode.reg l74r6) (ACode.cond (.tmp 15) (ACode.reg l74r7) ACode.skip)) (ACode.seq (ACode.reg l74r8) ACode.ret)))))) [ARes.tmp 6])
theorem l74_eq : lowFn Try.prog 74 = some l74 := by kernel_rfl
def l75r0 : List AOper :=
  [AOper.mk (some 4) (.mv (.const (.int .i64 0))) none []]
def l75r1 : List AOper :=
  [AOper.mk (some 5) (.mv (.const (.int .i64 0))) none []]
def l75r2 : List AOper :=
  [AOper.mk (some 6) (.mv (.tmp 5)) none [], AOper.mk (some 7) (.mv (.tmp 0)) none [], AOper.mk (some 8) (.len (.tmp 7)) none [1], AOper.mk (some 9) (.bin .lss (.tmp 6) (.tmp 8)) none [0, 2]]
def l75r3 : List AOper :=
  [AOper.mk (some 12) (.mv (.tmp 0)) none [], AOper.mk (some 13) (.mv (.tmp 5)) none [], AOper.mk (some 14) (.idxA 1 (.tmp 12) (.tmp 13)) none [0, 1], AOper.mk (some 15) (.load false 1 (.tmp 14)) none [2], AOper.mk (some 16) (.mv (.tmp 1)) none [], AOper.mk (some 17) (.bin .eql (.tmp 15) (.tmp 16)) none [3, 4]]
def l75r4 : List AOper :=
  [AOper.mk (some 18) (.mv (.tmp 5)) none [], AOper.mk (some 4) (.mv (.tmp 18)) none [0, 0]]
def l75r5 : List AOper :=
  [AOper.mk (some 10) (.mv (.tmp 5)) none [], AOper.mk (some 11) (.bin .add (.tmp 10) (.const (.int .i64 1))) none [0], AOper.mk (some 5) (.mv (.tmp 11)) none [1, 0, 1]]
def l75r6 : List AOper :=
  [AOper.mk (some 4) (.mv (.const (.int .i64 (-1)))) none []]
def l75 : AFn :=
  (AFn.mk 19 2 (ACode.seq (ACode.reg l75r0) (ACode.seq (ACode.seq (ACode.reg l75r1) (ACode.block 0 (ACode.loop (ACode.seq (ACode.seq (ACode.reg l75r2) (ACode.cond (.tmp 9) ACode.skip (ACode.exit 0))) (ACode.seq (ACode.block 1 (ACode.seq (ACode.reg l75r3) (ACode.cond (.tmp 17) (ACode.seq (ACode.reg l75r4) ACode.ret) ACode.skip))) (ACode.reg l75r5)))))) (ACode.seq (ACode.reg l75r6) ACode.ret))) [ARes.tmp 4])
theorem l75_eq : lowFn Try.prog 75 = some l75 := by kernel_rfl
end Go.Proofs.Ytjkdeemhmohoaaa
