import Derived.Test.YtjmcjjbhkiebkaaDoorCW3
import Derived.Test.YtjmcjjbhkiebkaaDoorProg
import Derived.KernelRfl
set_option maxRecDepth 100000
namespace Go.Proofs.YtjmcjjbhkiebkaaDoor
open Vw Go
instance globs:Inhabited GlobT:=⟨⟨[(0,[.int .i64 1,.int .i64 2,.int .i64 4])]⟩⟩
attribute [push_cast] Bool.false_eq_true List.length_replicate
attribute [bitvec_to_nat] decide_eq_true_eq decide_eq_false_iff_not Bool.not_eq_true' Bool.not_eq_false' Bool.and_eq_true Bool.or_eq_true Bool.and_eq_false_iff Bool.or_eq_false_iff Int.not_le Int.not_lt bne_iff_ne ne_eq beq_iff_eq Bool.not_eq_true Bool.not_eq_false
theorem sd {P:Prop}(h:P:=by first|assumption|rfl|omega|(simp<;>omega)|(simp_all<;>omega)):P:=h
abbrev uQ (n:Nat):List Nat:=List.range n
abbrev oQ (d:Nat)(p:AOp)(a:List Nat):AOper:=⟨some d,p,none,a⟩
abbrev gQ (d:Nat)(p:AOp)(g:Option (Nat×Bool))(a:List Nat):AOper:=⟨some d,p,g,a⟩
abbrev nQ (p:AOp)(a:List Nat):AOper:=⟨none,p,none,a⟩
abbrev Z0:=Operand.tmp 0
abbrev Z1:=Operand.tmp 1
abbrev Z2:=Operand.tmp 2
abbrev Z3:=Operand.tmp 3
abbrev Z4:=Operand.tmp 4
abbrev Z5:=Operand.tmp 5
abbrev Z6:=Operand.tmp 6
abbrev Z7:=Operand.tmp 7
abbrev Z8:=Operand.tmp 8
abbrev Z9:=Operand.tmp 9
abbrev Z10:=Operand.tmp 10
abbrev Z11:=Operand.tmp 11
abbrev Z12:=Operand.tmp 12
abbrev Z13:=Operand.tmp 13
abbrev Z14:=Operand.tmp 14
abbrev Z15:=Operand.tmp 15
abbrev Z16:=Operand.tmp 16
abbrev Z17:=Operand.tmp 17
abbrev Z18:=Operand.tmp 18
abbrev Z19:=Operand.tmp 19
abbrev Z20:=Operand.tmp 20
abbrev Z21:=Operand.tmp 21
abbrev Z22:=Operand.tmp 22
abbrev Z23:=Operand.tmp 23
abbrev Z24:=Operand.tmp 24
abbrev Z25:=Operand.tmp 25
abbrev Z26:=Operand.tmp 26
abbrev Z27:=Operand.tmp 27
abbrev Z28:=Operand.tmp 28
abbrev Z29:=Operand.tmp 29
abbrev Z30:=Operand.tmp 30
abbrev Z31:=Operand.tmp 31
abbrev Z32:=Operand.tmp 32
abbrev Z33:=Operand.tmp 33
abbrev Z34:=Operand.tmp 34
abbrev Z35:=Operand.tmp 35
abbrev Z36:=Operand.tmp 36
abbrev Z37:=Operand.tmp 37
abbrev Z38:=Operand.tmp 38
abbrev Z39:=Operand.tmp 39
abbrev Z40:=Operand.tmp 40
abbrev Z41:=Operand.tmp 41
abbrev Z42:=Operand.tmp 42
abbrev Z43:=Operand.tmp 43
abbrev Z44:=Operand.tmp 44
abbrev Z45:=Operand.tmp 45
abbrev Z46:=Operand.tmp 46
abbrev Z47:=Operand.tmp 47
abbrev Z48:=Operand.tmp 48
abbrev Z49:=Operand.tmp 49
abbrev Z50:=Operand.tmp 50
abbrev Z51:=Operand.tmp 51
abbrev Z52:=Operand.tmp 52
abbrev Z53:=Operand.tmp 53
abbrev Z54:=Operand.tmp 54
abbrev Z55:=Operand.tmp 55
abbrev Z56:=Operand.tmp 56
abbrev Z57:=Operand.tmp 57
abbrev Z58:=Operand.tmp 58
abbrev Z59:=Operand.tmp 59
abbrev Z60:=Operand.tmp 60
abbrev Z61:=Operand.tmp 61
abbrev Z62:=Operand.tmp 62
abbrev Z64:=Operand.tmp 64
abbrev Z65:=Operand.tmp 65
abbrev Z66:=Operand.tmp 66
abbrev Z67:=Operand.tmp 67
abbrev Z68:=Operand.tmp 68
abbrev Z69:=Operand.tmp 69
abbrev Z70:=Operand.tmp 70
abbrev Z72:=Operand.tmp 72
abbrev Z73:=Operand.tmp 73
abbrev Z75:=Operand.tmp 75
abbrev Z76:=Operand.tmp 76
abbrev Z77:=Operand.tmp 77
abbrev Z78:=Operand.tmp 78
abbrev Z79:=Operand.tmp 79
abbrev Z80:=Operand.tmp 80
abbrev Z81:=Operand.tmp 81
abbrev Z82:=Operand.tmp 82
abbrev Z84:=Operand.tmp 84
abbrev Z85:=Operand.tmp 85
abbrev Z86:=Operand.tmp 86
abbrev Z87:=Operand.tmp 87
abbrev Z89:=Operand.tmp 89
abbrev Z90:=Operand.tmp 90
def l3r0:List AOper :=
 [oQ 2 (.box Z0) [],oQ 4 (.mv (.const (.bool false))) []]
def l3r1:List AOper :=
 [oQ 5 (.mv (.const (.int .i64 1048576))) []]
def l3r2:List AOper :=
 [oQ 14 (.load true 3 Z2) [],oQ 15 (.mv Z5) [],oQ 16 (.call 4 [Z14,Z15]) [0,1],oQ 5 (.mv Z16) [2,2,0,1,2]]
def l3r3:List AOper :=
 [oQ 17 (.mv Z5) [],oQ 18 (.bin .lss Z17 (.const (.int .i64 0))) [0]]
def l3r4:List AOper :=
 [oQ 4 (.mv (.const (.bool true))) []]
def l3r5:List AOper :=
 [oQ 19 (.mv Z1) [],oQ 20 (.mv Z5) [],oQ 21 (.call 5 [Z19,Z20]) [0,1],oQ 5 (.mv Z21) [2,2,0,1,2]]
def l3r6:List AOper :=
 [oQ 22 (.mv Z5) [],oQ 23 (.bin .lss Z22 (.const (.int .i64 0))) [0]]
def l3r7:List AOper :=
 [oQ 4 (.mv (.const (.bool true))) []]
def l3r8:List AOper :=
 [oQ 24 (.load true 3 Z2) [],oQ 25 (.call 7 [Z24]) [0],oQ 26 (.mv Z1) [],oQ 27 (.call 8 [Z26]) [2,1],oQ 28 (.call 6 [Z25,Z27]) [1,3,3],oQ 6 (.mv Z28) (4::4::uQ 5)]
def l3r9:List AOper :=
 [oQ 29 (.load true 3 Z2) [],oQ 30 (.call 7 [Z29]) [0],oQ 7 (.alloc [.slice none 0 0,.bool false,.bool false]) [],nQ (.store 3 Z7 Z30) [2,1,1,0,1,2]]
def l3r10:List AOper :=
 [oQ 31 (.mv Z1) [],oQ 32 (.call 8 [Z31]) [0],oQ 8 (.mv Z32) [1,1,0,1]]
def l3r11:List AOper :=
 [oQ 33 (.load true 3 Z7) [],oQ 34 (.mv Z8) [],oQ 35 (.call 9 [Z33,Z34]) [0,1],oQ 9 (.mv Z35) [2,2,0,1,2]]
def l3r12:List AOper :=
 [oQ 36 (.mv Z9) [],oQ 37 (.mv Z6) [],oQ 38 (.call 10 [Z36,Z37]) [0,1],oQ 39 (.un .not Z38) [2]]
def l3r13:List AOper :=
 [oQ 4 (.mv (.const (.bool false))) []]
def l3r14a:List AOper :=
 [oQ 40 (.load true 3 Z7) [],oQ 41 (.load true 3 Z2) [],oQ 42 (.call 7 [Z41]) [1]]
def l3r14b:List AOper :=
 [oQ 43 (.call 11 [Z40,Z42]) [0,2,2],oQ 44 (.un .not Z43) [3]]
def l3r14:List AOper:=l3r14a++l3r14b
def l3r15:List AOper :=
 [oQ 4 (.mv (.const (.bool false))) []]
def l3r16:List AOper :=
 [oQ 45 (.mv Z8) [],oQ 46 (.mv Z1) [],oQ 47 (.call 8 [Z46]) [1],oQ 48 (.call 12 [Z45,Z47]) [0,2,2],oQ 49 (.un .not Z48) [3]]
def l3r17:List AOper :=
 [oQ 4 (.mv (.const (.bool false))) []]
def l3r18:List AOper :=
 [oQ 10 (.mv (.const (.int .i64 1))) []]
def l3r19:List AOper :=
 [oQ 50 (.load true 3 Z7) [],oQ 51 (.mv Z10) [],oQ 52 (.call 13 [Z50,Z51]) [0,1],oQ 10 (.mv Z52) [2,2,0,1,2]]
def l3r20:List AOper :=
 [oQ 53 (.mv Z8) [],oQ 54 (.mv Z10) [],oQ 55 (.call 14 [Z53,Z54]) [0,1],oQ 10 (.mv Z55) [2,2,0,1,2]]
def l3r21:List AOper :=
 [oQ 56 (.mv Z10) [],oQ 57 (.bin .lss Z56 (.const (.int .i64 0))) [0],oQ 58 (.mv Z57) [1],gQ 59 (.mv Z9) (some (58,false)) [2],gQ 60 (.mv Z6) (some (58,false)) [2],gQ 61 (.call 10 [Z59,Z60]) (some (58,false)) [3,4,2,2],gQ 62 (.un .not Z61) (some (58,false)) [5,2],oQ 63 (.pick Z58 (.const (.bool true)) Z62) [2,6]]
def l3r22:List AOper :=
 [oQ 4 (.mv (.const (.bool false))) []]
def l3r23:List AOper :=
 [oQ 11 (.mv (.const (.int .i64 1))) []]
def l3r24:List AOper :=
 [oQ 64 (.mv Z9) [],oQ 65 (.mv Z11) [],oQ 66 (.call 15 [Z64,Z65]) [0,1],oQ 11 (.mv Z66) [2,2,0,1,2]]
def l3r25:List AOper :=
 [oQ 12 (.mv (.const (.int .i64 1))) []]
def l3r26:List AOper :=
 [oQ 67 (.mv Z9) [],oQ 68 (.mv Z12) [],oQ 69 (.call 16 [Z67,Z68]) [0,1],oQ 12 (.mv Z69) [2,2,0,1,2]]
def l3r27:List AOper :=
 [oQ 70 (.mv Z12) [],oQ 71 (.bin .lss Z70 (.const (.int .i64 0))) [0]]
def l3r28:List AOper :=
 [oQ 4 (.mv (.const (.bool false))) []]
def l3r29:List AOper :=
 [oQ 72 (.mv Z12) [],oQ 73 (.mv Z11) [],oQ 74 (.bin .neq Z72 Z73) [0,1]]
def l3r30:List AOper :=
 [oQ 4 (.mv (.const (.bool false))) []]
def l3r31:List AOper :=
 [oQ 75 (.load true 3 Z2) [],oQ 76 (.call 7 [Z75]) [0],oQ 77 (.mv Z1) [],oQ 78 (.call 8 [Z77]) [2,1],oQ 79 (.call 9 [Z76,Z78]) [1,3,3],oQ 13 (.mv Z79) (4::4::uQ 5)]
def l3r32:List AOper :=
 [oQ 80 (.mv Z13) [],oQ 81 (.mv Z6) [],oQ 82 (.call 10 [Z80,Z81]) [0,1],oQ 83 (.un .not Z82) [2]]
def l3r33:List AOper :=
 [oQ 4 (.mv (.const (.bool false))) []]
def l3r34:List AOper :=
 [oQ 12 (.mv (.const (.int .i64 1))) []]
def l3r35:List AOper :=
 [oQ 84 (.mv Z9) [],oQ 85 (.mv Z12) [],oQ 86 (.call 16 [Z84,Z85]) [0,1],oQ 12 (.mv Z86) [2,2,0,1,2]]
def l3r36:List AOper :=
 [oQ 87 (.mv Z12) [],oQ 88 (.bin .lss Z87 (.const (.int .i64 0))) [0]]
def l3r37:List AOper :=
 [oQ 4 (.mv (.const (.bool false))) []]
def l3r38:List AOper :=
 [oQ 89 (.mv Z12) [],oQ 90 (.mv Z11) [],oQ 91 (.bin .neq Z89 Z90) [0,1]]
def l3r39:List AOper :=
 [oQ 4 (.mv (.const (.bool false))) []]
def l3r40:List AOper :=
 [oQ 4 (.mv (.const (.bool true))) []]
def l3:AFn :=
 (AFn.mk 92 2 (.seq (.reg l3r0) (.seq (.reg l3r1) (.seq (.reg l3r2) (.seq (.seq (.reg l3r3) (.cond (.tmp 18) (.seq (.reg l3r4) .ret) .skip)) (.seq (.reg l3r5) (.seq (.seq (.reg l3r6) (.cond (.tmp 23) (.seq (.reg l3r7) .ret) .skip)) (.seq (.reg l3r8) (.seq (.reg l3r9) (.seq (.reg l3r10) (.seq (.reg l3r11) (.seq (.seq (.reg l3r12) (.cond (.tmp 39) (.seq (.reg l3r13) .ret) .skip)) (.seq (.seq (.draw l3r14) (.cond (.tmp 44) (.seq (.reg l3r15) .ret) .skip)) (.seq (.seq (.reg l3r16) (.cond (.tmp 49) (.seq (.reg l3r17) .ret) .skip)) (.seq (.reg l3r18) (.seq (.reg l3r19) (.seq (.reg l3r20) (.seq (.seq (.reg l3r21) (.cond (.tmp 63) (.seq (.reg l3r22) .ret) .skip)) (.seq (.reg l3r23) (.seq (.reg l3r24) (.seq (.reg l3r25) (.seq (.reg l3r26) (.seq (.seq (.reg l3r27) (.cond (.tmp 71) (.seq (.reg l3r28) .ret) .skip)) (.seq (.seq (.reg l3r29) (.cond (.tmp 74) (.seq (.reg l3r30) .ret) .skip)) (.seq (.reg l3r31) (.seq (.seq (.reg l3r32) (.cond (.tmp 83) (.seq (.reg l3r33) .ret) .skip)) (.seq (.reg l3r34) (.seq (.reg l3r35) (.seq (.seq (.reg l3r36) (.cond (.tmp 88) (.seq (.reg l3r37) .ret) .skip)) (.seq (.seq (.reg l3r38) (.cond (.tmp 91) (.seq (.reg l3r39) .ret) .skip)) (.seq (.reg l3r40) .ret)))))))))))))))))))))))))))))) [.tmp 4])
theorem l3_eq:lowFn Tryd.prog 3=some l3:=by kernel_rfl
def l4r0:List AOper :=
 [oQ 2 (.box Z0) [],oQ 4 (.mv (.const (.int .i64 0))) []]
def l4r1:List AOper :=
 [oQ 5 (.fld 0 Z2) [],oQ 6 (.load false 1 Z5) [0],oQ 7 (.mv Z1) [],oQ 8 (.call 17 [Z6,Z7]) [1,2],oQ 1 (.mv Z8) [3,3,0,1,2,3]]
def l4r2:List AOper :=
 [oQ 9 (.mv Z1) [],oQ 10 (.bin .lss Z9 (.const (.int .i64 0))) [0]]
def l4r3:List AOper :=
 [oQ 4 (.mv (.const (.int .i64 (-1)))) []]
def l4r4:List AOper :=
 [oQ 11 (.mv Z1) [],oQ 4 (.mv Z11) [0,0]]
def l4:AFn :=
 (AFn.mk 12 2 (.seq (.reg l4r0) (.seq (.reg l4r1) (.seq (.seq (.reg l4r2) (.cond (.tmp 10) (.seq (.reg l4r3) .ret) .skip)) (.seq (.reg l4r4) .ret)))) [.tmp 4])
theorem l4_eq:lowFn Tryd.prog 4=some l4:=by kernel_rfl
def l5r0:List AOper :=
 [oQ 4 (.mv (.const (.int .i64 0))) []]
def l5r1:List AOper :=
 [oQ 6 (.mv Z1) [],oQ 7 (.mv Z0) [],oQ 8 (.len Z7) [1],oQ 9 (.bin .sub Z6 Z8) [0,2],oQ 1 (.mv Z9) [3,0,1,2,3]]
def l5r2:List AOper :=
 [oQ 10 (.mv Z1) [],oQ 11 (.bin .lss Z10 (.const (.int .i64 0))) [0]]
def l5r3:List AOper :=
 [oQ 4 (.mv (.const (.int .i64 (-1)))) []]
def l5r4:List AOper :=
 [oQ 5 (.mv (.const (.int .i64 0))) []]
def l5r5:List AOper :=
 [oQ 12 (.mv Z5) [],oQ 13 (.mv Z0) [],oQ 14 (.len Z13) [1],oQ 15 (.bin .lss Z12 Z14) [0,2]]
def l5r6:List AOper :=
 [oQ 18 (.mv Z0) [],oQ 19 (.mv Z5) [],oQ 20 (.idxA 1 Z18 Z19) [0,1],oQ 21 (.load false 1 Z20) [2],oQ 22 (.mv Z1) [],oQ 23 (.call 17 [Z21,Z22]) [3,4],oQ 1 (.mv Z23) (5::5::uQ 6)]
def l5r7:List AOper :=
 [oQ 24 (.mv Z1) [],oQ 25 (.bin .lss Z24 (.const (.int .i64 0))) [0]]
def l5r8:List AOper :=
 [oQ 4 (.mv (.const (.int .i64 (-1)))) []]
def l5r9:List AOper :=
 [oQ 16 (.mv Z5) [],oQ 17 (.bin .add Z16 (.const (.int .i64 1))) [0],oQ 5 (.mv Z17) [1,0,1]]
def l5r10:List AOper :=
 [oQ 26 (.mv Z1) [],oQ 4 (.mv Z26) [0,0]]
def l5:AFn :=
 (AFn.mk 27 2 (.seq (.reg l5r0) (.seq (.reg l5r1) (.seq (.seq (.reg l5r2) (.cond (.tmp 11) (.seq (.reg l5r3) .ret) .skip)) (.seq (.seq (.reg l5r4) (.block 0 (.loop (.seq (.seq (.reg l5r5) (.cond (.tmp 15) .skip (.exit 0))) (.seq (.block 1 (.seq (.reg l5r6) (.seq (.reg l5r7) (.cond (.tmp 25) (.seq (.reg l5r8) .ret) .skip)))) (.reg l5r9)))))) (.seq (.reg l5r10) .ret))))) [.tmp 4])
theorem l5_eq:lowFn Tryd.prog 5=some l5:=by kernel_rfl
def l6r0:List AOper :=
 [oQ 2 (.box Z0) [],oQ 4 (.mv (.const (.slice none 0 0))) []]
def l6r1:List AOper :=
 [oQ 7 (.load true 3 Z2) [],oQ 8 (.call 18 [Z7]) [0],oQ 9 (.un .not Z8) [1]]
def l6r2:List AOper :=
 [oQ 4 (.mv (.const (.slice none 0 0))) []]
def l6r3:List AOper :=
 [oQ 10 (.bslice 1 [.int .i64 0] [] 0) [],oQ 5 (.mv Z10) [0,0]]
def l6r4:List AOper :=
 [oQ 6 (.mv (.const (.int .i64 0))) []]
def l6r5:List AOper :=
 [oQ 11 (.mv Z6) [],oQ 12 (.mv Z1) [],oQ 13 (.len Z12) [1],oQ 14 (.bin .lss Z11 Z13) [0,2]]
def l6r6a:List AOper :=
 [oQ 17 (.load true 3 Z2) [],oQ 18 (.mv Z1) [],oQ 19 (.mv Z6) [],oQ 20 (.idxA 1 Z18 Z19) [1,2],oQ 21 (.load false 1 Z20) [3]]
def l6r6b:List AOper :=
 [oQ 22 (.call 19 [Z17,Z21]) [0,4],oQ 23 (.un .not Z22) [5]]
def l6r6:List AOper:=l6r6a++l6r6b
def l6r7:List AOper :=
 [oQ 4 (.mv (.const (.slice none 0 0))) []]
def l6r8a:List AOper :=
 [oQ 24 (.mv Z5) [],oQ 25 (.load true 3 Z2) [],oQ 26 (.mv Z1) [],oQ 27 (.mv Z6) [],oQ 28 (.idxA 1 Z26 Z27) [2,3],oQ 29 (.load false 1 Z28) [4],oQ 30 (.call 20 [Z25,Z29]) [1,5]]
def l6r8b:List AOper :=
 [oQ 31 (.append 1 Z24 Z30) [0,6,6],oQ 5 (.mv Z31) (7::7::uQ 8)]
def l6r8:List AOper:=l6r8a++l6r8b
def l6r9:List AOper :=
 [oQ 32 (.mv Z5) [],oQ 33 (.len Z32) [0],oQ 34 (.bin .gtr Z33 (.const (.int .i64 60))) [1]]
def l6r10:List AOper :=
 [oQ 4 (.mv (.const (.slice none 0 0))) []]
def l6r11:List AOper :=
 [oQ 15 (.mv Z6) [],oQ 16 (.bin .add Z15 (.const (.int .i64 1))) [0],oQ 6 (.mv Z16) [1,0,1]]
def l6r12:List AOper :=
 [oQ 35 (.mv Z5) [],oQ 4 (.mv Z35) [0,0]]
def l6:AFn :=
 (AFn.mk 36 2 (.seq (.reg l6r0) (.seq (.seq (.reg l6r1) (.cond (.tmp 9) (.seq (.reg l6r2) .ret) .skip)) (.seq (.reg l6r3) (.seq (.seq (.reg l6r4) (.block 0 (.loop (.seq (.seq (.reg l6r5) (.cond (.tmp 14) .skip (.exit 0))) (.seq (.block 1 (.seq (.seq (.draw l6r6) (.cond (.tmp 23) (.seq (.reg l6r7) .ret) .skip)) (.seq (.draw l6r8) (.seq (.reg l6r9) (.cond (.tmp 34) (.seq (.reg l6r10) .ret) .skip))))) (.reg l6r11)))))) (.seq (.reg l6r12) .ret))))) [.tmp 4])
theorem l6_eq:lowFn Tryd.prog 6=some l6:=by kernel_rfl
def l7r0:List AOper :=
 [oQ 1 (.box Z0) [],oQ 2 (.alloc [.slice none 0 0,.bool false,.bool false]) []]
def l7r1:List AOper :=
 [oQ 3 (.alloc [.slice none 0 0,.bool false,.bool false]) []]
def l7r2:List AOper :=
 [oQ 4 (.fld 0 Z1) [],oQ 5 (.load false 1 Z4) [0],oQ 6 (.call 21 [Z5]) [1],oQ 7 (.fld 0 Z3) [0,1,2],nQ (.store 1 Z7 Z6) [3,2,2,0,1,2]]
def l7r3:List AOper :=
 [oQ 8 (.fld 1 Z1) [],oQ 9 (.load false 1 Z8) [0],oQ 10 (.fld 1 Z3) [0,1],nQ (.store 1 Z10 Z9) [2,1,0,1]]
def l7r4:List AOper :=
 [oQ 11 (.fld 2 Z1) [],oQ 12 (.load false 1 Z11) [0],oQ 13 (.fld 2 Z3) [0,1],nQ (.store 1 Z13 Z12) [2,1,0,1]]
def l7r5:List AOper :=
 [oQ 14 (.load true 3 Z3) [],nQ (.store 3 Z2 Z14) [0,0]]
def l7:AFn :=
 (AFn.mk 15 1 (.seq (.reg l7r0) (.seq (.reg l7r1) (.seq (.reg l7r2) (.seq (.reg l7r3) (.seq (.reg l7r4) (.seq (.reg l7r5) .ret)))))) [.cell 2 true 3])
theorem l7_eq:lowFn Tryd.prog 7=some l7:=by kernel_rfl
def l8r0:List AOper :=
 [oQ 2 (.mv (.const (.slice none 0 0))) []]
def l8r1:List AOper :=
 [oQ 5 (.mv Z0) [],oQ 6 (.len Z5) [0],oQ 7 (.mkslice 1 [.slice none 0 0] Z6 Z6) [1,1],oQ 3 (.mv Z7) [2,0,1,2]]
def l8r2:List AOper :=
 [oQ 4 (.mv (.const (.int .i64 0))) []]
def l8r3:List AOper :=
 [oQ 8 (.mv Z4) [],oQ 9 (.mv Z0) [],oQ 10 (.len Z9) [1],oQ 11 (.bin .lss Z8 Z10) [0,2]]
def l8r4:List AOper :=
 [oQ 14 (.mv Z3) [],oQ 15 (.mv Z4) [],oQ 16 (.mv Z0) [],oQ 17 (.mv Z4) [],oQ 18 (.idxA 1 Z16 Z17) [2,3],oQ 19 (.load false 1 Z18) [4],oQ 20 (.call 21 [Z19]) [5],oQ 21 (.idxA 1 Z14 Z15) (0::1::uQ 7),nQ (.store 1 Z21 Z20) (7::6::6::uQ 7)]
def l8r5:List AOper :=
 [oQ 12 (.mv Z4) [],oQ 13 (.bin .add Z12 (.const (.int .i64 1))) [0],oQ 4 (.mv Z13) [1,0,1]]
def l8r6:List AOper :=
 [oQ 22 (.mv Z3) [],oQ 2 (.mv Z22) [0,0]]
def l8:AFn :=
 (AFn.mk 23 1 (.seq (.reg l8r0) (.seq (.reg l8r1) (.seq (.seq (.reg l8r2) (.block 0 (.loop (.seq (.seq (.reg l8r3) (.cond (.tmp 11) .skip (.exit 0))) (.seq (.block 1 (.reg l8r4)) (.reg l8r5)))))) (.seq (.reg l8r6) .ret)))) [.tmp 2])
theorem l8_eq:lowFn Tryd.prog 8=some l8:=by kernel_rfl
def l9r0:List AOper :=
 [oQ 2 (.box Z0) [],oQ 4 (.mv (.const (.slice none 0 0))) []]
def l9r1:List AOper :=
 [oQ 8 (.load true 3 Z2) [],oQ 9 (.call 22 [Z8]) [0],oQ 10 (.un .not Z9) [1],oQ 11 (.mv Z10) [2,1],gQ 12 (.mv Z1) (some (11,false)) [3],gQ 13 (.len Z12) (some (11,false)) [4,3],gQ 14 (.load true 3 Z2) (some (11,false)) [3],gQ 15 (.call 23 [Z14]) (some (11,false)) [6,3,3],gQ 16 (.bin .quo (.const (.int .i64 60)) Z15) (some (11,false)) [7,3],gQ 17 (.bin .gtr Z13 Z16) (some (11,false)) [5,8,3],oQ 18 (.pick Z11 (.const (.bool true)) Z17) [3,9]]
def l9r2:List AOper :=
 [oQ 4 (.mv (.const (.slice none 0 0))) []]
def l9r3:List AOper :=
 [oQ 5 (.mv (.const (.slice none 0 0))) []]
def l9r4:List AOper :=
 [oQ 19 (.mv Z1) [],oQ 20 (.len Z19) [0],oQ 21 (.mv (.const (.int .i64 0))) []]
def l9r5:List AOper :=
 [oQ 22 (.bin .lss Z21 Z20) []]
def l9r6:List AOper :=
 [oQ 23 (.idxA 1 Z19 Z21) [],oQ 24 (.load false 1 Z23) [0],oQ 7 (.mv Z24) [1,0,1]]
def l9r7:List AOper :=
 [oQ 25 (.load true 3 Z2) [],oQ 26 (.mv Z7) [],oQ 27 (.call 24 [Z25,Z26]) [0,1],oQ 28 (.un .not Z27) [2]]
def l9r8:List AOper :=
 [oQ 4 (.mv (.const (.slice none 0 0))) []]
def l9r9:List AOper :=
 [oQ 29 (.mv Z5) [],oQ 30 (.load true 3 Z2) [],oQ 31 (.mv Z7) [],oQ 32 (.call 25 [Z30,Z31]) [1,2],oQ 33 (.append 1 Z29 Z32) [0,3,3],oQ 5 (.mv Z33) (4::4::uQ 5)]
def l9r10:List AOper :=
 [oQ 34 (.bin .add Z21 (.const (.int .i64 1))) [],oQ 21 (.mv Z34) [0]]
def l9r11:List AOper :=
 [oQ 35 (.mv Z5) [],oQ 4 (.mv Z35) [0,0]]
def l9:AFn :=
 (AFn.mk 36 2 (.seq (.reg l9r0) (.seq (.seq (.reg l9r1) (.cond (.tmp 18) (.seq (.reg l9r2) .ret) .skip)) (.seq (.reg l9r3) (.seq (.seq (.reg l9r4) (.block 0 (.loop (.seq (.reg l9r5) (.seq (.cond (.tmp 22) .skip (.exit 0)) (.seq (.block 1 (.seq (.reg l9r6) (.seq (.seq (.reg l9r7) (.cond (.tmp 28) (.seq (.reg l9r8) .ret) .skip)) (.reg l9r9)))) (.reg l9r10))))))) (.seq (.reg l9r11) .ret))))) [.tmp 4])
theorem l9_eq:lowFn Tryd.prog 9=some l9:=by kernel_rfl
def l10r0:List AOper :=
 [oQ 4 (.mv (.const (.bool false))) []]
def l10r1:List AOper :=
 [oQ 6 (.mv Z0) [],oQ 7 (.len Z6) [0],oQ 8 (.mv Z1) [],oQ 9 (.len Z8) [2],oQ 10 (.bin .neq Z7 Z9) [1,3]]
def l10r2:List AOper :=
 [oQ 4 (.mv (.const (.bool false))) []]
def l10r3:List AOper :=
 [oQ 5 (.mv (.const (.int .i64 0))) []]
def l10r4:List AOper :=
 [oQ 11 (.mv Z5) [],oQ 12 (.mv Z0) [],oQ 13 (.len Z12) [1],oQ 14 (.bin .lss Z11 Z13) [0,2]]
def l10r5a:List AOper :=
 [oQ 17 (.mv Z0) [],oQ 18 (.mv Z5) [],oQ 19 (.idxA 1 Z17 Z18) [0,1],oQ 20 (.load false 1 Z19) [2],oQ 21 (.mv Z1) [],oQ 22 (.mv Z5) [],oQ 23 (.idxA 1 Z21 Z22) [4,5],oQ 24 (.load false 1 Z23) [6]]
def l10r5b:List AOper :=
 [oQ 25 (.bin .neq Z20 Z24) [3,7]]
def l10r5:List AOper:=l10r5a++l10r5b
def l10r6:List AOper :=
 [oQ 4 (.mv (.const (.bool false))) []]
def l10r7:List AOper :=
 [oQ 15 (.mv Z5) [],oQ 16 (.bin .add Z15 (.const (.int .i64 1))) [0],oQ 5 (.mv Z16) [1,0,1]]
def l10r8:List AOper :=
 [oQ 4 (.mv (.const (.bool true))) []]
def l10:AFn :=
 (AFn.mk 26 2 (.seq (.reg l10r0) (.seq (.seq (.reg l10r1) (.cond (.tmp 10) (.seq (.reg l10r2) .ret) .skip)) (.seq (.seq (.reg l10r3) (.block 0 (.loop (.seq (.seq (.reg l10r4) (.cond (.tmp 14) .skip (.exit 0))) (.seq (.block 1 (.seq (.draw l10r5) (.cond (.tmp 25) (.seq (.reg l10r6) .ret) .skip))) (.reg l10r7)))))) (.seq (.reg l10r8) .ret)))) [.tmp 4])
theorem l10_eq:lowFn Tryd.prog 10=some l10:=by kernel_rfl
def l11r0:List AOper :=
 [oQ 2 (.box Z0) [],oQ 3 (.box Z1) [],oQ 4 (.mv (.const (.bool false))) []]
def l11r1:List AOper :=
 [oQ 5 (.fld 0 Z2) [],oQ 6 (.load false 1 Z5) [0],oQ 7 (.fld 0 Z3) [],oQ 8 (.load false 1 Z7) [2],oQ 9 (.call 10 [Z6,Z8]) [1,3],oQ 10 (.un .not Z9) [4]]
def l11r2:List AOper :=
 [oQ 4 (.mv (.const (.bool false))) []]
def l11r3:List AOper :=
 [oQ 11 (.fld 1 Z2) [],oQ 12 (.load false 1 Z11) [0],oQ 13 (.fld 1 Z3) [],oQ 14 (.load false 1 Z13) [2],oQ 15 (.binB .neq Z12 Z14) [1,3]]
def l11r4:List AOper :=
 [oQ 4 (.mv (.const (.bool false))) []]
def l11r5:List AOper :=
 [oQ 16 (.fld 2 Z2) [],oQ 17 (.load false 1 Z16) [0],oQ 18 (.fld 2 Z3) [],oQ 19 (.load false 1 Z18) [2],oQ 20 (.binB .neq Z17 Z19) [1,3]]
def l11r6:List AOper :=
 [oQ 4 (.mv (.const (.bool false))) []]
def l11r7:List AOper :=
 [oQ 4 (.mv (.const (.bool true))) []]
def l11:AFn :=
 (AFn.mk 21 2 (.seq (.reg l11r0) (.seq (.seq (.reg l11r1) (.cond (.tmp 10) (.seq (.reg l11r2) .ret) .skip)) (.seq (.seq (.reg l11r3) (.cond (.tmp 15) (.seq (.reg l11r4) .ret) .skip)) (.seq (.seq (.reg l11r5) (.cond (.tmp 20) (.seq (.reg l11r6) .ret) .skip)) (.seq (.reg l11r7) .ret))))) [.tmp 4])
theorem l11_eq:lowFn Tryd.prog 11=some l11:=by kernel_rfl
def l12r0:List AOper :=
 [oQ 4 (.mv (.const (.bool false))) []]
def l12r1:List AOper :=
 [oQ 6 (.mv Z0) [],oQ 7 (.len Z6) [0],oQ 8 (.mv Z1) [],oQ 9 (.len Z8) [2],oQ 10 (.bin .neq Z7 Z9) [1,3]]
def l12r2:List AOper :=
 [oQ 4 (.mv (.const (.bool false))) []]
def l12r3:List AOper :=
 [oQ 5 (.mv (.const (.int .i64 0))) []]
def l12r4:List AOper :=
 [oQ 11 (.mv Z5) [],oQ 12 (.mv Z0) [],oQ 13 (.len Z12) [1],oQ 14 (.bin .lss Z11 Z13) [0,2]]
def l12r5a:List AOper :=
 [oQ 17 (.mv Z0) [],oQ 18 (.mv Z5) [],oQ 19 (.idxA 1 Z17 Z18) [0,1],oQ 20 (.load false 1 Z19) [2],oQ 21 (.mv Z1) [],oQ 22 (.mv Z5) [],oQ 23 (.idxA 1 Z21 Z22) [4,5],oQ 24 (.load false 1 Z23) [6]]
def l12r5b:List AOper :=
 [oQ 25 (.call 10 [Z20,Z24]) [3,7],oQ 26 (.un .not Z25) [8]]
def l12r5:List AOper:=l12r5a++l12r5b
def l12r6:List AOper :=
 [oQ 4 (.mv (.const (.bool false))) []]
def l12r7:List AOper :=
 [oQ 15 (.mv Z5) [],oQ 16 (.bin .add Z15 (.const (.int .i64 1))) [0],oQ 5 (.mv Z16) [1,0,1]]
def l12r8:List AOper :=
 [oQ 4 (.mv (.const (.bool true))) []]
def l12:AFn :=
 (AFn.mk 27 2 (.seq (.reg l12r0) (.seq (.seq (.reg l12r1) (.cond (.tmp 10) (.seq (.reg l12r2) .ret) .skip)) (.seq (.seq (.reg l12r3) (.block 0 (.loop (.seq (.seq (.reg l12r4) (.cond (.tmp 14) .skip (.exit 0))) (.seq (.block 1 (.seq (.draw l12r5) (.cond (.tmp 26) (.seq (.reg l12r6) .ret) .skip))) (.reg l12r7)))))) (.seq (.reg l12r8) .ret)))) [.tmp 4])
theorem l12_eq:lowFn Tryd.prog 12=some l12:=by kernel_rfl
def l13r0:List AOper :=
 [oQ 2 (.box Z0) [],oQ 4 (.mv (.const (.int .i64 0))) []]
def l13r1:List AOper :=
 [oQ 5 (.fld 0 Z2) [],oQ 6 (.load false 1 Z5) [0],oQ 7 (.mv Z1) [],oQ 8 (.call 15 [Z6,Z7]) [1,2],oQ 1 (.mv Z8) [3,3,0,1,2,3]]
def l13r2:List AOper :=
 [oQ 9 (.mv Z1) [],oQ 4 (.mv Z9) [0,0]]
def l13:AFn :=
 (AFn.mk 10 2 (.seq (.reg l13r0) (.seq (.reg l13r1) (.seq (.reg l13r2) .ret))) [.tmp 4])
theorem l13_eq:lowFn Tryd.prog 13=some l13:=by kernel_rfl
def l14r0:List AOper :=
 [oQ 4 (.mv (.const (.int .i64 0))) []]
def l14r1:List AOper :=
 [oQ 5 (.mv (.const (.int .i64 0))) []]
def l14r2:List AOper :=
 [oQ 6 (.mv Z5) [],oQ 7 (.mv Z0) [],oQ 8 (.len Z7) [1],oQ 9 (.bin .lss Z6 Z8) [0,2]]
def l14r3:List AOper :=
 [oQ 12 (.mv Z0) [],oQ 13 (.mv Z5) [],oQ 14 (.idxA 1 Z12 Z13) [0,1],oQ 15 (.load false 1 Z14) [2],oQ 16 (.mv Z1) [],oQ 17 (.call 15 [Z15,Z16]) [3,4],oQ 1 (.mv Z17) (5::5::uQ 6)]
def l14r4:List AOper :=
 [oQ 10 (.mv Z5) [],oQ 11 (.bin .add Z10 (.const (.int .i64 1))) [0],oQ 5 (.mv Z11) [1,0,1]]
def l14r5:List AOper :=
 [oQ 18 (.mv Z1) [],oQ 4 (.mv Z18) [0,0]]
def l14:AFn :=
 (AFn.mk 19 2 (.seq (.reg l14r0) (.seq (.seq (.reg l14r1) (.block 0 (.loop (.seq (.seq (.reg l14r2) (.cond (.tmp 9) .skip (.exit 0))) (.seq (.block 1 (.reg l14r3)) (.reg l14r4)))))) (.seq (.reg l14r5) .ret))) [.tmp 4])
theorem l14_eq:lowFn Tryd.prog 14=some l14:=by kernel_rfl
def l15r0:List AOper :=
 [oQ 4 (.mv (.const (.int .i64 0))) []]
def l15r1:List AOper :=
 [oQ 5 (.mv (.const (.int .i64 0))) []]
def l15r2:List AOper :=
 [oQ 6 (.mv Z5) [],oQ 7 (.mv Z0) [],oQ 8 (.len Z7) [1],oQ 9 (.bin .lss Z6 Z8) [0,2]]
def l15r3:List AOper :=
 [oQ 12 (.mv Z0) [],oQ 13 (.mv Z5) [],oQ 14 (.mv Z1) [],oQ 15 (.idxA 1 Z12 Z13) [0,1,0,1,2],nQ (.store 1 Z15 Z14) [3,2,0,1,2]]
def l15r4:List AOper :=
 [oQ 16 (.mv Z1) [],oQ 17 (.bin .add Z16 (.const (.int .i64 1))) [0],oQ 1 (.mv Z17) [1,0,1]]
def l15r5:List AOper :=
 [oQ 10 (.mv Z5) [],oQ 11 (.bin .add Z10 (.const (.int .i64 1))) [0],oQ 5 (.mv Z11) [1,0,1]]
def l15r6:List AOper :=
 [oQ 18 (.mv Z1) [],oQ 4 (.mv Z18) [0,0]]
def l15:AFn :=
 (AFn.mk 19 2 (.seq (.reg l15r0) (.seq (.seq (.reg l15r1) (.block 0 (.loop (.seq (.seq (.reg l15r2) (.cond (.tmp 9) .skip (.exit 0))) (.seq (.block 1 (.seq (.reg l15r3) (.reg l15r4))) (.reg l15r5)))))) (.seq (.reg l15r6) .ret))) [.tmp 4])
theorem l15_eq:lowFn Tryd.prog 15=some l15:=by kernel_rfl
def l16r0:List AOper :=
 [oQ 4 (.mv (.const (.int .i64 0))) []]
def l16r1:List AOper :=
 [oQ 5 (.mv (.const (.int .i64 0))) []]
def l16r2:List AOper :=
 [oQ 6 (.mv Z5) [],oQ 7 (.mv Z0) [],oQ 8 (.len Z7) [1],oQ 9 (.bin .lss Z6 Z8) [0,2]]
def l16r3:List AOper :=
 [oQ 12 (.mv Z0) [],oQ 13 (.mv Z5) [],oQ 14 (.idxA 1 Z12 Z13) [0,1],oQ 15 (.load false 1 Z14) [2],oQ 16 (.mv Z1) [],oQ 17 (.bin .neq Z15 Z16) [3,4]]
def l16r4:List AOper :=
 [oQ 4 (.mv (.const (.int .i64 (-1)))) []]
def l16r5:List AOper :=
 [oQ 18 (.mv Z1) [],oQ 19 (.bin .add Z18 (.const (.int .i64 1))) [0],oQ 1 (.mv Z19) [1,0,1]]
def l16r6:List AOper :=
 [oQ 10 (.mv Z5) [],oQ 11 (.bin .add Z10 (.const (.int .i64 1))) [0],oQ 5 (.mv Z11) [1,0,1]]
def l16r7:List AOper :=
 [oQ 20 (.mv Z1) [],oQ 4 (.mv Z20) [0,0]]
def l16:AFn :=
 (AFn.mk 21 2 (.seq (.reg l16r0) (.seq (.seq (.reg l16r1) (.block 0 (.loop (.seq (.seq (.reg l16r2) (.cond (.tmp 9) .skip (.exit 0))) (.seq (.block 1 (.seq (.seq (.reg l16r3) (.cond (.tmp 17) (.seq (.reg l16r4) .ret) .skip)) (.reg l16r5))) (.reg l16r6)))))) (.seq (.reg l16r7) .ret))) [.tmp 4])
theorem l16_eq:lowFn Tryd.prog 16=some l16:=by kernel_rfl
def l17r0:List AOper :=
 [oQ 4 (.mv (.const (.int .i64 0))) []]
def l17r1:List AOper :=
 [oQ 5 (.mv Z1) [],oQ 6 (.mv Z0) [],oQ 7 (.len Z6) [1],oQ 8 (.bin .sub Z5 Z7) [0,2],oQ 1 (.mv Z8) [3,0,1,2,3]]
def l17r2:List AOper :=
 [oQ 9 (.mv Z1) [],oQ 10 (.bin .lss Z9 (.const (.int .i64 0))) [0]]
def l17r3:List AOper :=
 [oQ 4 (.mv (.const (.int .i64 (-1)))) []]
def l17r4:List AOper :=
 [oQ 11 (.mv Z1) [],oQ 4 (.mv Z11) [0,0]]
def l17:AFn :=
 (AFn.mk 12 2 (.seq (.reg l17r0) (.seq (.reg l17r1) (.seq (.seq (.reg l17r2) (.cond (.tmp 10) (.seq (.reg l17r3) .ret) .skip)) (.seq (.reg l17r4) .ret)))) [.tmp 4])
theorem l17_eq:lowFn Tryd.prog 17=some l17:=by kernel_rfl
def l18r0:List AOper :=
 [oQ 1 (.box Z0) [],oQ 2 (.mv (.const (.bool false))) []]
def l18r1:List AOper :=
 [oQ 3 (.mv (.const (.int .i64 0))) []]
def l18r2:List AOper :=
 [oQ 4 (.mv Z3) [],oQ 5 (.fld 0 Z1) [],oQ 6 (.load false 1 Z5) [1],oQ 7 (.len Z6) [2],oQ 8 (.bin .lss Z4 Z7) [0,3]]
def l18r3:List AOper :=
 [oQ 11 (.fld 0 Z1) [],oQ 12 (.load false 1 Z11) [0],oQ 13 (.mv Z3) [],oQ 14 (.idxA 1 Z12 Z13) [1,2],oQ 15 (.load false 1 Z14) [3],oQ 16 (.bin .neq Z15 (.const (.int .i64 1))) [4],oQ 17 (.mv Z16) [5],gQ 18 (.fld 0 Z1) (some (17,true)) [6],gQ 19 (.load false 1 Z18) (some (17,true)) [7,6],gQ 20 (.mv Z3) (some (17,true)) [6],gQ 21 (.idxA 1 Z19 Z20) (some (17,true)) [8,9,6],gQ 22 (.load false 1 Z21) (some (17,true)) [10,6],gQ 23 (.bin .neq Z22 (.const (.int .i64 2))) (some (17,true)) [11,6],oQ 24 (.pick Z17 Z23 (.const (.bool false))) [6,12],oQ 25 (.mv Z24) [13,6],gQ 26 (.fld 0 Z1) (some (25,true)) [14],gQ 27 (.load false 1 Z26) (some (25,true)) [15,14],gQ 28 (.mv Z3) (some (25,true)) [14],gQ 29 (.idxA 1 Z27 Z28) (some (25,true)) [16,17,14],gQ 30 (.load false 1 Z29) (some (25,true)) [18,14],gQ 31 (.bin .neq Z30 (.const (.int .i64 4))) (some (25,true)) [19,14],oQ 32 (.pick Z25 Z31 (.const (.bool false))) [14,20]]
def l18r4:List AOper :=
 [oQ 2 (.mv (.const (.bool false))) []]
def l18r5:List AOper :=
 [oQ 9 (.mv Z3) [],oQ 10 (.bin .add Z9 (.const (.int .i64 1))) [0],oQ 3 (.mv Z10) [1,0,1]]
def l18r6:List AOper :=
 [oQ 33 (.fld 0 Z1) [],oQ 34 (.load false 1 Z33) [0],oQ 35 (.len Z34) [1],oQ 36 (.call 26 [Z35,.const (.int .i64 1),.const (.int .i64 5)]) [2],oQ 2 (.mv Z36) [3,3,0,1,2,3]]
def l18:AFn :=
 (AFn.mk 37 1 (.seq (.reg l18r0) (.seq (.seq (.reg l18r1) (.block 0 (.loop (.seq (.seq (.reg l18r2) (.cond (.tmp 8) .skip (.exit 0))) (.seq (.block 1 (.seq (.reg l18r3) (.cond (.tmp 32) (.seq (.reg l18r4) .ret) .skip))) (.reg l18r5)))))) (.seq (.reg l18r6) .ret))) [.tmp 2])
theorem l18_eq:lowFn Tryd.prog 18=some l18:=by kernel_rfl
def l19r0:List AOper :=
 [oQ 2 (.box Z0) [],oQ 4 (.mv (.const (.bool false))) []]
def l19r1:List AOper :=
 [oQ 6 (.mv Z1) [],oQ 7 (.len Z6) [0],oQ 8 (.fld 0 Z2) [],oQ 9 (.load false 1 Z8) [2],oQ 10 (.len Z9) [3],oQ 11 (.bin .neq Z7 Z10) [1,4]]
def l19r2:List AOper :=
 [oQ 4 (.mv (.const (.bool false))) []]
def l19r3:List AOper :=
 [oQ 5 (.mv (.const (.int .i64 0))) []]
def l19r4:List AOper :=
 [oQ 12 (.mv Z5) [],oQ 13 (.mv Z1) [],oQ 14 (.len Z13) [1],oQ 15 (.bin .lss Z12 Z14) [0,2]]
def l19r5a:List AOper :=
 [oQ 18 (.mv Z1) [],oQ 19 (.mv Z5) [],oQ 20 (.idxA 1 Z18 Z19) [0,1],oQ 21 (.load false 1 Z20) [2],oQ 22 (.fld 0 Z2) [],oQ 23 (.load false 1 Z22) [4],oQ 24 (.mv Z5) [],oQ 25 (.idxA 1 Z23 Z24) [5,6],oQ 26 (.load false 1 Z25) [7],oQ 27 (.call 27 [Z26]) [8],oQ 28 (.bin .sub Z27 (.const (.int .i64 1))) [9]]
def l19r5b:List AOper :=
 [oQ 29 (.call 26 [Z21,.const (.int .i64 0),Z28]) [3,10,9],oQ 30 (.un .not Z29) [11]]
def l19r5:List AOper:=l19r5a++l19r5b
def l19r6:List AOper :=
 [oQ 4 (.mv (.const (.bool false))) []]
def l19r7:List AOper :=
 [oQ 16 (.mv Z5) [],oQ 17 (.bin .add Z16 (.const (.int .i64 1))) [0],oQ 5 (.mv Z17) [1,0,1]]
def l19r8:List AOper :=
 [oQ 4 (.mv (.const (.bool true))) []]
def l19:AFn :=
 (AFn.mk 31 2 (.seq (.reg l19r0) (.seq (.seq (.reg l19r1) (.cond (.tmp 11) (.seq (.reg l19r2) .ret) .skip)) (.seq (.seq (.reg l19r3) (.block 0 (.loop (.seq (.seq (.reg l19r4) (.cond (.tmp 15) .skip (.exit 0))) (.seq (.block 1 (.seq (.draw l19r5) (.cond (.tmp 30) (.seq (.reg l19r6) .ret) .skip))) (.reg l19r7)))))) (.seq (.reg l19r8) .ret)))) [.tmp 4])
theorem l19_eq:lowFn Tryd.prog 19=some l19:=by kernel_rfl
def l20r0:List AOper :=
 [oQ 2 (.box Z0) [],oQ 4 (.mv (.const (.slice none 0 0))) []]
def l20r1:List AOper :=
 [oQ 12 (.load true 3 Z2) [],oQ 13 (.call 28 [Z12]) [0],oQ 11 (.mv Z13) [1],oQ 14 (.extract Z11 0) [2],oQ 15 (.extract Z11 1) [2],oQ 5 (.mv Z14) [3,1,0,1,2,3],oQ 6 (.mv Z15) (4::5::uQ 6)]
def l20r2:List AOper :=
 [oQ 16 (.mv Z6) [],oQ 17 (.mkslice 1 [.int .i64 0] Z16 Z16) [0,0],oQ 7 (.mv Z17) [1,0,1]]
def l20r3:List AOper :=
 [oQ 8 (.mv (.const (.int .i64 0))) []]
def l20r4:List AOper :=
 [oQ 18 (.mv Z8) [],oQ 19 (.mv Z1) [],oQ 20 (.len Z19) [1],oQ 21 (.bin .lss Z18 Z20) [0,2]]
def l20r5a:List AOper :=
 [oQ 24 (.mv Z1) [],oQ 25 (.mv Z8) [],oQ 26 (.idxA 1 Z24 Z25) [0,1],oQ 27 (.load false 1 Z26) [2],oQ 28 (.fld 0 Z2) [],oQ 29 (.load false 1 Z28) [4],oQ 30 (.mv Z8) [],oQ 31 (.idxA 1 Z29 Z30) [5,6],oQ 32 (.load false 1 Z31) [7],oQ 33 (.fld 1 Z2) [],oQ 34 (.load false 1 Z33) [9]]
def l20r5b:List AOper :=
 [oQ 35 (.call 29 [Z27,Z32,Z34]) [3,8,10],oQ 9 (.mv Z35) (11::11::uQ 12)]
def l20r5:List AOper:=l20r5a++l20r5b
def l20r6:List AOper :=
 [oQ 10 (.mv (.const (.int .i64 0))) []]
def l20r7:List AOper :=
 [oQ 36 (.mv Z10) [],oQ 37 (.mv Z9) [],oQ 38 (.len Z37) [1],oQ 39 (.bin .lss Z36 Z38) [0,2]]
def l20r8a:List AOper :=
 [oQ 42 (.mv Z7) [],oQ 43 (.mv Z5) [],oQ 44 (.mv Z8) [],oQ 45 (.idxA 1 Z43 Z44) [1,2],oQ 46 (.load false 1 Z45) [3],oQ 47 (.mv Z10) [],oQ 48 (.bin .add Z46 Z47) [4,5],oQ 49 (.mv Z9) [],oQ 50 (.mv Z10) [],oQ 51 (.idxA 1 Z49 Z50) [7,8],oQ 52 (.load false 1 Z51) [9]]
def l20r8b:List AOper :=
 [oQ 53 (.idxA 1 Z42 Z48) (0::6::uQ 11),nQ (.store 1 Z53 Z52) (11::10::uQ 11)]
def l20r8:List AOper:=l20r8a++l20r8b
def l20r9:List AOper :=
 [oQ 40 (.mv Z10) [],oQ 41 (.bin .add Z40 (.const (.int .i64 1))) [0],oQ 10 (.mv Z41) [1,0,1]]
def l20r10:List AOper :=
 [oQ 22 (.mv Z8) [],oQ 23 (.bin .add Z22 (.const (.int .i64 1))) [0],oQ 8 (.mv Z23) [1,0,1]]
def l20r11:List AOper :=
 [oQ 54 (.mv Z7) [],oQ 4 (.mv Z54) [0,0]]
def l20:AFn :=
 (AFn.mk 55 2 (.seq (.reg l20r0) (.seq (.reg l20r1) (.seq (.reg l20r2) (.seq (.seq (.reg l20r3) (.block 0 (.loop (.seq (.seq (.reg l20r4) (.cond (.tmp 21) .skip (.exit 0))) (.seq (.block 1 (.seq (.draw l20r5) (.seq (.reg l20r6) (.block 2 (.loop (.seq (.seq (.reg l20r7) (.cond (.tmp 39) .skip (.exit 2))) (.seq (.block 3 (.draw l20r8)) (.reg l20r9)))))))) (.reg l20r10)))))) (.seq (.reg l20r11) .ret))))) [.tmp 4])
theorem l20_eq:lowFn Tryd.prog 20=some l20:=by kernel_rfl
def l21r0:List AOper :=
 [oQ 2 (.mv (.const (.slice none 0 0))) []]
def l21r1:List AOper :=
 [oQ 5 (.mv Z0) [],oQ 6 (.len Z5) [0],oQ 7 (.mkslice 1 [.int .i64 0] Z6 Z6) [1,1],oQ 3 (.mv Z7) [2,0,1,2]]
def l21r2:List AOper :=
 [oQ 4 (.mv (.const (.int .i64 0))) []]
def l21r3:List AOper :=
 [oQ 8 (.mv Z4) [],oQ 9 (.mv Z0) [],oQ 10 (.len Z9) [1],oQ 11 (.bin .lss Z8 Z10) [0,2]]
def l21r4:List AOper :=
 [oQ 14 (.mv Z3) [],oQ 15 (.mv Z4) [],oQ 16 (.mv Z0) [],oQ 17 (.mv Z4) [],oQ 18 (.idxA 1 Z16 Z17) [2,3],oQ 19 (.load false 1 Z18) [4],oQ 20 (.idxA 1 Z14 Z15) (0::1::uQ 6),nQ (.store 1 Z20 Z19) (6::5::uQ 6)]
def l21r5:List AOper :=
 [oQ 12 (.mv Z4) [],oQ 13 (.bin .add Z12 (.const (.int .i64 1))) [0],oQ 4 (.mv Z13) [1,0,1]]
def l21r6:List AOper :=
 [oQ 21 (.mv Z3) [],oQ 2 (.mv Z21) [0,0]]
def l21:AFn :=
 (AFn.mk 22 1 (.seq (.reg l21r0) (.seq (.reg l21r1) (.seq (.seq (.reg l21r2) (.block 0 (.loop (.seq (.seq (.reg l21r3) (.cond (.tmp 11) .skip (.exit 0))) (.seq (.block 1 (.reg l21r4)) (.reg l21r5)))))) (.seq (.reg l21r6) .ret)))) [.tmp 2])
theorem l21_eq:lowFn Tryd.prog 21=some l21:=by kernel_rfl
def l22r0:List AOper :=
 [oQ 1 (.box Z0) [],oQ 2 (.mv (.const (.bool false))) []]
def l22r1:List AOper :=
 [oQ 5 (.fld 0 Z1) [],oQ 6 (.load false 1 Z5) [0],oQ 7 (.len Z6) [1],oQ 8 (.bin .lss Z7 (.const (.int .i64 1))) [2],oQ 9 (.mv Z8) [3],gQ 10 (.fld 0 Z1) (some (9,false)) [4],gQ 11 (.load false 1 Z10) (some (9,false)) [5,4],gQ 12 (.len Z11) (some (9,false)) [6,4],gQ 13 (.bin .gtr Z12 (.const (.int .i64 5))) (some (9,false)) [7,4],oQ 14 (.pick Z9 (.const (.bool true)) Z13) [4,8]]
def l22r2:List AOper :=
 [oQ 2 (.mv (.const (.bool false))) []]
def l22r3:List AOper :=
 [oQ 15 (.fld 0 Z1) [],oQ 16 (.load false 1 Z15) [0],oQ 17 (.len Z16) [1],oQ 18 (.mv (.const (.int .i64 0))) []]
def l22r4:List AOper :=
 [oQ 19 (.bin .lss Z18 Z17) []]
def l22r5:List AOper :=
 [oQ 20 (.idxA 1 Z16 Z18) [],oQ 21 (.load false 1 Z20) [0],oQ 4 (.mv Z21) [1,0,1]]
def l22r6:List AOper :=
 [oQ 22 (.mv Z4) [],oQ 23 (.call 30 [Z22]) [0],oQ 24 (.un .not Z23) [1]]
def l22r7:List AOper :=
 [oQ 2 (.mv (.const (.bool false))) []]
def l22r8:List AOper :=
 [oQ 25 (.bin .add Z18 (.const (.int .i64 1))) [],oQ 18 (.mv Z25) [0]]
def l22r9:List AOper :=
 [oQ 2 (.mv (.const (.bool true))) []]
def l22:AFn :=
 (AFn.mk 26 1 (.seq (.reg l22r0) (.seq (.seq (.reg l22r1) (.cond (.tmp 14) (.seq (.reg l22r2) .ret) .skip)) (.seq (.seq (.reg l22r3) (.block 0 (.loop (.seq (.reg l22r4) (.seq (.cond (.tmp 19) .skip (.exit 0)) (.seq (.block 1 (.seq (.reg l22r5) (.seq (.reg l22r6) (.cond (.tmp 24) (.seq (.reg l22r7) .ret) .skip)))) (.reg l22r8))))))) (.seq (.reg l22r9) .ret)))) [.tmp 2])
theorem l22_eq:lowFn Tryd.prog 22=some l22:=by kernel_rfl
def l23r0:List AOper :=
 [oQ 1 (.box Z0) [],oQ 2 (.mv (.const (.int .i64 0))) []]
def l23r1a:List AOper :=
 [oQ 4 (.load true 3 Z1) [],oQ 5 (.call 31 [Z4]) [0],oQ 6 (.fld 0 Z1) [],oQ 7 (.load false 1 Z6) [2],oQ 8 (.len Z7) [3],oQ 9 (.bin .sub Z8 (.const (.int .i64 1))) [4],oQ 10 (.idxA 2 Z5 Z9) [1,5],oQ 11 (.load true 2 Z10) [6],oQ 3 (.alloc [.int .i64 0,.int .i64 0]) []]
def l23r1b:List AOper :=
 [nQ (.store 2 Z3 Z11) (8::7::1::uQ 9)]
def l23r1:List AOper:=l23r1a++l23r1b
def l23r2a:List AOper :=
 [oQ 12 (.load true 3 Z1) [],oQ 13 (.load true 2 Z3) [],oQ 14 (.call 33 [Z13]) [1],oQ 15 (.fld 0 Z1) [],oQ 16 (.load false 1 Z15) [3],oQ 17 (.call 34 [Z16]) [4,2]]
def l23r2b:List AOper :=
 [oQ 18 (.call 32 [Z12,Z14,Z17]) [0,2,5,5],oQ 2 (.mv Z18) (6::6::uQ 7)]
def l23r2:List AOper:=l23r2a++l23r2b
def l23:AFn :=
 (AFn.mk 19 1 (.seq (.reg l23r0) (.seq (.draw l23r1) (.seq (.draw l23r2) .ret))) [.tmp 2])
theorem l23_eq:lowFn Tryd.prog 23=some l23:=by kernel_rfl
def l24r0:List AOper :=
 [oQ 2 (.box Z0) [],oQ 4 (.mv (.const (.bool false))) []]
def l24r1:List AOper :=
 [oQ 7 (.load true 3 Z2) [],oQ 8 (.call 22 [Z7]) [0],oQ 9 (.un .not Z8) [1],oQ 10 (.mv Z9) [2,1],gQ 11 (.mv Z1) (some (10,false)) [3],gQ 12 (.len Z11) (some (10,false)) [4,3],gQ 13 (.fld 0 Z2) (some (10,false)) [3],gQ 14 (.load false 1 Z13) (some (10,false)) [6,3],gQ 15 (.len Z14) (some (10,false)) [7,3],gQ 16 (.bin .neq Z12 Z15) (some (10,false)) [5,8,3],oQ 17 (.pick Z10 (.const (.bool true)) Z16) [3,9]]
def l24r2:List AOper :=
 [oQ 4 (.mv (.const (.bool false))) []]
def l24r3:List AOper :=
 [oQ 18 (.mv Z1) [],oQ 19 (.len Z18) [0],oQ 20 (.mv (.const (.int .i64 0))) []]
def l24r4:List AOper :=
 [oQ 21 (.bin .lss Z20 Z19) []]
def l24r5:List AOper :=
 [oQ 22 (.mv Z20) [],oQ 23 (.idxA 1 Z18 Z20) [],oQ 24 (.load false 1 Z23) [1],oQ 5 (.mv Z22) [0,0,1,2],oQ 6 (.mv Z24) [2,3,0,1,2,3]]
def l24r6:List AOper :=
 [oQ 25 (.mv Z6) [],oQ 26 (.fld 0 Z2) [],oQ 27 (.load false 1 Z26) [1],oQ 28 (.mv Z5) [],oQ 29 (.idxA 1 Z27 Z28) [2,3],oQ 30 (.load false 1 Z29) [4],oQ 31 (.call 36 [Z30]) [5],oQ 32 (.call 35 [Z25,Z31]) [0,6,6],oQ 33 (.un .not Z32) [7]]
def l24r7:List AOper :=
 [oQ 4 (.mv (.const (.bool false))) []]
def l24r8:List AOper :=
 [oQ 34 (.bin .add Z20 (.const (.int .i64 1))) [],oQ 20 (.mv Z34) [0]]
def l24r9:List AOper :=
 [oQ 4 (.mv (.const (.bool true))) []]
def l24:AFn :=
 (AFn.mk 35 2 (.seq (.reg l24r0) (.seq (.seq (.reg l24r1) (.cond (.tmp 17) (.seq (.reg l24r2) .ret) .skip)) (.seq (.seq (.reg l24r3) (.block 0 (.loop (.seq (.reg l24r4) (.seq (.cond (.tmp 21) .skip (.exit 0)) (.seq (.block 1 (.seq (.reg l24r5) (.seq (.reg l24r6) (.cond (.tmp 33) (.seq (.reg l24r7) .ret) .skip)))) (.reg l24r8))))))) (.seq (.reg l24r9) .ret)))) [.tmp 4])
theorem l24_eq:lowFn Tryd.prog 24=some l24:=by kernel_rfl
def l25r0:List AOper :=
 [oQ 2 (.box Z0) [],oQ 4 (.mv (.const (.slice none 0 0))) []]
def l25r1a:List AOper :=
 [oQ 9 (.load true 3 Z2) [],oQ 10 (.call 23 [Z9]) [0],oQ 11 (.mkslice 1 [.int .i64 0] Z10 Z10) [1,1],oQ 12 (.load true 3 Z2) [],oQ 13 (.call 37 [Z12]) [3,1],oQ 6 (.alloc [.nilFunc]) []]
def l25r1b:List AOper :=
 [oQ 5 (.mv Z11) [2,4,0,1,2,5],nQ (.store 1 Z6 Z13) (5::4::6::uQ 7)]
def l25r1:List AOper:=l25r1a++l25r1b
def l25r2:List AOper :=
 [oQ 14 (.load true 3 Z2) [],oQ 15 (.call 31 [Z14]) [0],oQ 16 (.len Z15) [1],oQ 17 (.mv (.const (.int .i64 0))) []]
def l25r3:List AOper :=
 [oQ 18 (.bin .lss Z17 Z16) []]
def l25r4:List AOper :=
 [oQ 19 (.mv Z17) [],oQ 20 (.idxA 2 Z15 Z17) [],oQ 21 (.load true 2 Z20) [1],oQ 8 (.alloc [.int .i64 0,.int .i64 0]) [],oQ 7 (.mv Z19) [0,0,1,2,3],nQ (.store 2 Z8 Z21) (3::2::4::uQ 5)]
def l25r5a:List AOper :=
 [oQ 22 (.load true 1 Z6) [],oQ 23 (.mv Z5) [],oQ 24 (.load true 2 Z8) [],oQ 25 (.mv Z1) [],oQ 26 (.mv Z7) [],oQ 27 (.idxA 1 Z25 Z26) [3,4],oQ 28 (.load false 1 Z27) [5]]
def l25r5b:List AOper :=
 [oQ 29 (.call 38 [Z22,Z23,Z24,Z28]) [0,1,2,6]]
def l25r5:List AOper:=l25r5a++l25r5b
def l25r6:List AOper :=
 [oQ 30 (.bin .add Z17 (.const (.int .i64 1))) [],oQ 17 (.mv Z30) [0]]
def l25r7:List AOper :=
 [oQ 31 (.mv Z5) [],oQ 4 (.mv Z31) [0,0]]
def l25:AFn :=
 (AFn.mk 32 2 (.seq (.reg l25r0) (.seq (.draw l25r1) (.seq (.seq (.reg l25r2) (.block 0 (.loop (.seq (.reg l25r3) (.seq (.cond (.tmp 18) .skip (.exit 0)) (.seq (.block 1 (.seq (.reg l25r4) (.draw l25r5))) (.reg l25r6))))))) (.seq (.reg l25r7) .ret)))) [.tmp 4])
theorem l25_eq:lowFn Tryd.prog 25=some l25:=by kernel_rfl
def l26r0:List AOper :=
 [oQ 6 (.mv (.const (.bool false))) []]
def l26r1:List AOper :=
 [oQ 7 (.mv Z1) [],oQ 8 (.mv Z0) [],oQ 9 (.bin .leq Z7 Z8) [0,1],oQ 10 (.mv Z9) [2],gQ 11 (.mv Z0) (some (10,true)) [3],gQ 12 (.mv Z2) (some (10,true)) [3],gQ 13 (.bin .leq Z11 Z12) (some (10,true)) [4,5,3],oQ 14 (.pick Z10 Z13 (.const (.bool false))) [3,6],oQ 6 (.mv Z14) (7::3::uQ 8)]
def l26:AFn :=
 (AFn.mk 15 3 (.seq (.reg l26r0) (.seq (.reg l26r1) .ret)) [.tmp 6])
theorem l26_eq:lowFn Tryd.prog 26=some l26:=by kernel_rfl
def l27r0:List AOper :=
 [oQ 2 (.mv (.const (.int .i64 0))) []]
def l27r1:List AOper :=
 [oQ 3 (.mv (.const (.int .i64 1))) []]
def l27r2:List AOper :=
 [oQ 4 (.mv (.const (.int .i64 0))) []]
def l27r3:List AOper :=
 [oQ 5 (.mv Z4) [],oQ 6 (.mv Z0) [],oQ 7 (.bin .lss Z5 Z6) [0,1]]
def l27r4:List AOper :=
 [oQ 10 (.mv Z3) [],oQ 11 (.bin .mul Z10 (.const (.int .i64 256))) [0],oQ 3 (.mv Z11) [1,0,1]]
def l27r5:List AOper :=
 [oQ 8 (.mv Z4) [],oQ 9 (.bin .add Z8 (.const (.int .i64 1))) [0],oQ 4 (.mv Z9) [1,0,1]]
def l27r6:List AOper :=
 [oQ 12 (.mv Z3) [],oQ 2 (.mv Z12) [0,0]]
def l27:AFn :=
 (AFn.mk 13 1 (.seq (.reg l27r0) (.seq (.reg l27r1) (.seq (.seq (.reg l27r2) (.block 0 (.loop (.seq (.seq (.reg l27r3) (.cond (.tmp 7) .skip (.exit 0))) (.seq (.block 1 (.reg l27r4)) (.reg l27r5)))))) (.seq (.reg l27r6) .ret)))) [.tmp 2])
theorem l27_eq:lowFn Tryd.prog 27=some l27:=by kernel_rfl
def l28r0:List AOper :=
 [oQ 1 (.box Z0) [],oQ 2 (.mv (.const (.slice none 0 0))) [],oQ 3 (.mv (.const (.int .i64 0))) [1]]
def l28r1:List AOper :=
 [oQ 8 (.bslice 1 [.int .i64 0] [] 0) [],oQ 4 (.mv Z8) [0,0]]
def l28r2:List AOper :=
 [oQ 5 (.mv (.const (.int .i64 0))) []]
def l28r3:List AOper :=
 [oQ 6 (.mv (.const (.int .i64 1))) []]
def l28r4:List AOper :=
 [oQ 7 (.mv (.const (.int .i64 0))) []]
def l28r5:List AOper :=
 [oQ 9 (.mv Z7) [],oQ 10 (.fld 0 Z1) [],oQ 11 (.load false 1 Z10) [1],oQ 12 (.len Z11) [2],oQ 13 (.bin .lss Z9 Z12) [0,3]]
def l28r6:List AOper :=
 [oQ 16 (.fld 2 Z1) [],oQ 17 (.load false 1 Z16) [0]]
def l28r7:List AOper :=
 [oQ 18 (.mv Z5) [],oQ 19 (.fld 0 Z1) [],oQ 20 (.load false 1 Z19) [1],oQ 21 (.mv Z7) [],oQ 22 (.idxA 1 Z20 Z21) [2,3],oQ 23 (.load false 1 Z22) [4],oQ 24 (.call 39 [Z18,Z23]) [0,5],oQ 5 (.mv Z24) (6::6::uQ 7)]
def l28r8:List AOper :=
 [oQ 25 (.mv Z6) [],oQ 26 (.fld 0 Z1) [],oQ 27 (.load false 1 Z26) [1],oQ 28 (.mv Z7) [],oQ 29 (.idxA 1 Z27 Z28) [2,3],oQ 30 (.load false 1 Z29) [4],oQ 31 (.minmax true Z25 Z30) [0,5],oQ 6 (.mv Z31) (6::uQ 7)]
def l28r9:List AOper :=
 [oQ 32 (.mv Z4) [],oQ 33 (.mv Z5) [],oQ 34 (.bslice 1 [.int .i64 0] [(0,Z33)] 1) [1],oQ 35 (.append 1 Z32 Z34) [0,2],oQ 4 (.mv Z35) [3,3,0,1,2,3]]
def l28r10:List AOper :=
 [oQ 36 (.mv Z5) [],oQ 37 (.fld 0 Z1) [],oQ 38 (.load false 1 Z37) [1],oQ 39 (.mv Z7) [],oQ 40 (.idxA 1 Z38 Z39) [2,3],oQ 41 (.load false 1 Z40) [4],oQ 42 (.bin .add Z36 Z41) [0,5],oQ 5 (.mv Z42) (6::uQ 7)]
def l28r11:List AOper :=
 [oQ 14 (.mv Z7) [],oQ 15 (.bin .add Z14 (.const (.int .i64 1))) [0],oQ 7 (.mv Z15) [1,0,1]]
def l28r12:List AOper :=
 [oQ 43 (.mv Z4) [],oQ 44 (.mv Z5) [],oQ 45 (.mv Z6) [],oQ 46 (.call 39 [Z44,Z45]) [1,2],oQ 2 (.mv Z43) [0,3,0],oQ 3 (.mv Z46) (3::4::uQ 5)]
def l28:AFn :=
 (AFn.mk 47 1 (.seq (.reg l28r0) (.seq (.reg l28r1) (.seq (.reg l28r2) (.seq (.reg l28r3) (.seq (.seq (.reg l28r4) (.block 0 (.loop (.seq (.seq (.reg l28r5) (.cond (.tmp 13) .skip (.exit 0))) (.seq (.block 1 (.seq (.seq (.reg l28r6) (.cond (.tmp 17) (.seq (.reg l28r7) (.reg l28r8)) .skip)) (.seq (.reg l28r9) (.reg l28r10)))) (.reg l28r11)))))) (.seq (.reg l28r12) .ret)))))) [.tmp 2,.tmp 3])
theorem l28_eq:lowFn Tryd.prog 28=some l28:=by kernel_rfl
def l29r0:List AOper :=
 [oQ 6 (.mv (.const (.slice none 0 0))) []]
def l29r1:List AOper :=
 [oQ 9 (.bslice 1 [.int .i64 0] [] 0) [],oQ 7 (.mv Z9) [0,0]]
def l29r2:List AOper :=
 [oQ 8 (.mv (.const (.int .i64 0))) []]
def l29r3:List AOper :=
 [oQ 10 (.mv Z8) [],oQ 11 (.mv Z1) [],oQ 12 (.bin .lss Z10 Z11) [0,1]]
def l29r4:List AOper :=
 [oQ 15 (.mv Z7) [],oQ 16 (.mv Z0) [],oQ 17 (.bin .rem Z16 (.const (.int .i64 256))) [1],oQ 18 (.bslice 1 [.int .i64 0] [(0,Z17)] 1) [2],oQ 19 (.append 1 Z15 Z18) [0,3],oQ 7 (.mv Z19) (4::4::uQ 5)]
def l29r5:List AOper :=
 [oQ 20 (.mv Z0) [],oQ 21 (.bin .quo Z20 (.const (.int .i64 256))) [0],oQ 0 (.mv Z21) [1,0,1]]
def l29r6:List AOper :=
 [oQ 13 (.mv Z8) [],oQ 14 (.bin .add Z13 (.const (.int .i64 1))) [0],oQ 8 (.mv Z14) [1,0,1]]
def l29r7:List AOper :=
 [oQ 22 (.mv Z2) []]
def l29r8:List AOper :=
 [oQ 23 (.mv Z7) [],oQ 24 (.call 40 [Z23]) [0],oQ 6 (.mv Z24) [1,1,0,1]]
def l29r9:List AOper :=
 [oQ 25 (.mv Z7) [],oQ 6 (.mv Z25) [0,0]]
def l29:AFn :=
 (AFn.mk 26 3 (.seq (.reg l29r0) (.seq (.reg l29r1) (.seq (.seq (.reg l29r2) (.block 0 (.loop (.seq (.seq (.reg l29r3) (.cond (.tmp 12) .skip (.exit 0))) (.seq (.block 1 (.seq (.reg l29r4) (.reg l29r5))) (.reg l29r6)))))) (.seq (.seq (.reg l29r7) (.cond (.tmp 22) (.seq (.reg l29r8) .ret) .skip)) (.seq (.reg l29r9) .ret))))) [.tmp 6])
theorem l29_eq:lowFn Tryd.prog 29=some l29:=by kernel_rfl
def l30r0:List AOper :=
 [oQ 2 (.mv (.const (.bool false))) []]
def l30r1:List AOper :=
 [oQ 5 (.load true 3 (.global 0)) [],oQ 6 (.mv (.const (.int .i64 0))) []]
def l30r2:List AOper :=
 [oQ 7 (.bin .lss Z6 (.const (.int .i64 3))) []]
def l30r3:List AOper :=
 [oQ 8 (.raw (Op.index 61 Z5 Z6)) [],oQ 4 (.mv Z8) [0,0]]
def l30r4:List AOper :=
 [oQ 9 (.mv Z0) [],oQ 10 (.mv Z4) [],oQ 11 (.bin .eql Z9 Z10) [0,1]]
def l30r5:List AOper :=
 [oQ 2 (.mv (.const (.bool true))) []]
def l30r6:List AOper :=
 [oQ 12 (.bin .add Z6 (.const (.int .i64 1))) [],oQ 6 (.mv Z12) [0]]
def l30r7:List AOper :=
 [oQ 2 (.mv (.const (.bool false))) []]
def l30:AFn :=
 (AFn.mk 13 1 (.seq (.reg l30r0) (.seq (.seq (.reg l30r1) (.block 0 (.loop (.seq (.reg l30r2) (.seq (.cond (.tmp 7) .skip (.exit 0)) (.seq (.block 1 (.seq (.reg l30r3) (.seq (.reg l30r4) (.cond (.tmp 11) (.seq (.reg l30r5) .ret) .skip)))) (.reg l30r6))))))) (.seq (.reg l30r7) .ret))) [.tmp 2])
theorem l30_eq:lowFn Tryd.prog 30=some l30:=by kernel_rfl
def l31r0:List AOper :=
 [oQ 1 (.box Z0) [],oQ 2 (.mv (.const (.slice none 0 0))) []]
def l31r1:List AOper :=
 [oQ 7 (.fld 0 Z1) [],oQ 8 (.load false 1 Z7) [0],oQ 9 (.len Z8) [1],oQ 10 (.mkslice 2 [.int .i64 0,.int .i64 0] Z9 Z9) [2,2],oQ 3 (.mv Z10) [3,0,1,2,3]]
def l31r2:List AOper :=
 [oQ 4 (.mv (.const (.int .i64 0))) []]
def l31r3:List AOper :=
 [oQ 11 (.fld 0 Z1) [],oQ 12 (.load false 1 Z11) [0],oQ 13 (.len Z12) [1],oQ 14 (.mv (.const (.int .i64 0))) []]
def l31r4:List AOper :=
 [oQ 15 (.bin .lss Z14 Z13) []]
def l31r5:List AOper :=
 [oQ 16 (.mv Z14) [],oQ 17 (.idxA 1 Z12 Z14) [],oQ 18 (.load false 1 Z17) [1],oQ 5 (.mv Z16) [0,0,1,2],oQ 6 (.mv Z18) [2,3,0,1,2,3]]
def l31r6:List AOper :=
 [oQ 19 (.mv Z3) [],oQ 20 (.mv Z5) [],oQ 21 (.load true 3 Z1) [],oQ 22 (.mv Z4) [],oQ 23 (.mv Z6) [],oQ 24 (.call 32 [Z21,Z22,Z23]) [2,3,4],oQ 25 (.mv Z6) [],oQ 26 (.build [.int .i64 0,.int .i64 0] [(0,1,Z24),(1,1,Z25)]) [5,6],oQ 27 (.idxA 2 Z19 Z20) (0::1::uQ 8),nQ (.store 2 Z27 Z26) (8::7::5::uQ 8)]
def l31r7:List AOper :=
 [oQ 28 (.mv Z3) [],oQ 29 (.mv Z5) [],oQ 30 (.idxA 2 Z28 Z29) [0,1],oQ 31 (.load true 2 Z30) [2],oQ 32 (.call 33 [Z31]) [3],oQ 4 (.mv Z32) (4::4::uQ 5)]
def l31r8:List AOper :=
 [oQ 33 (.bin .add Z14 (.const (.int .i64 1))) [],oQ 14 (.mv Z33) [0]]
def l31r9:List AOper :=
 [oQ 34 (.mv Z3) [],oQ 2 (.mv Z34) [0,0]]
def l31:AFn :=
 (AFn.mk 35 1 (.seq (.reg l31r0) (.seq (.reg l31r1) (.seq (.reg l31r2) (.seq (.seq (.reg l31r3) (.block 0 (.loop (.seq (.reg l31r4) (.seq (.cond (.tmp 15) .skip (.exit 0)) (.seq (.block 1 (.seq (.reg l31r5) (.seq (.reg l31r6) (.reg l31r7)))) (.reg l31r8))))))) (.seq (.reg l31r9) .ret))))) [.tmp 2])
theorem l31_eq:lowFn Tryd.prog 31=some l31:=by kernel_rfl
def l32r0:List AOper :=
 [oQ 3 (.box Z0) [],oQ 6 (.mv (.const (.int .i64 0))) []]
def l32r1:List AOper :=
 [oQ 7 (.fld 2 Z3) [],oQ 8 (.load false 1 Z7) [0],oQ 9 (.un .not Z8) [1]]
def l32r2:List AOper :=
 [oQ 10 (.mv Z1) [],oQ 6 (.mv Z10) [0,0]]
def l32r3:List AOper :=
 [oQ 11 (.mv Z1) [],oQ 12 (.mv Z2) [],oQ 13 (.bin .add Z11 Z12) [0,1],oQ 14 (.bin .sub Z13 (.const (.int .i64 1))) [2],oQ 15 (.mv Z2) [],oQ 16 (.bin .quo Z14 Z15) [3,4],oQ 17 (.mv Z2) [],oQ 18 (.bin .mul Z16 Z17) [5,6],oQ 6 (.mv Z18) (7::uQ 8)]
def l32:AFn :=
 (AFn.mk 19 3 (.seq (.reg l32r0) (.seq (.seq (.reg l32r1) (.cond (.tmp 9) (.seq (.reg l32r2) .ret) .skip)) (.seq (.reg l32r3) .ret))) [.tmp 6])
theorem l32_eq:lowFn Tryd.prog 32=some l32:=by kernel_rfl
def l33r0:List AOper :=
 [oQ 1 (.box Z0) [],oQ 2 (.mv (.const (.int .i64 0))) []]
def l33r1:List AOper :=
 [oQ 3 (.fld 0 Z1) [],oQ 4 (.load false 1 Z3) [0],oQ 5 (.fld 1 Z1) [],oQ 6 (.load false 1 Z5) [2],oQ 7 (.bin .add Z4 Z6) [1,3],oQ 2 (.mv Z7) (4::uQ 5)]
def l33:AFn :=
 (AFn.mk 8 1 (.seq (.reg l33r0) (.seq (.reg l33r1) .ret)) [.tmp 2])
theorem l33_eq:lowFn Tryd.prog 33=some l33:=by kernel_rfl
def l34r0:List AOper :=
 [oQ 2 (.mv (.const (.int .i64 0))) []]
def l34r1:List AOper :=
 [oQ 5 (.mv Z0) [],oQ 6 (.len Z5) [0],oQ 7 (.bin .lss Z6 (.const (.int .i64 1))) [1]]
def l34r2:List AOper :=
 [oQ 8 (.raw (Op.makeInterface 9 (.const (.string (ByteArray.mk (Array.mk [(115:UInt8),(108:UInt8),(105:UInt8),(99:UInt8),(101:UInt8),(115:UInt8),(46:UInt8),(77:UInt8),(97:UInt8),(120:UInt8),(58:UInt8),(32:UInt8),(101:UInt8),(109:UInt8),(112:UInt8),(116:UInt8),(121:UInt8),(32:UInt8),(108:UInt8),(105:UInt8),(115:UInt8),(116:UInt8)])))))) [],nQ (.raw (Op.panic Z8)) [0]]
def l34r3:List AOper :=
 [oQ 9 (.mv Z0) [],oQ 10 (.idxA 1 Z9 (.const (.int .i64 0))) [0],oQ 11 (.load false 1 Z10) [1],oQ 3 (.mv Z11) [2,0,1,2]]
def l34r4:List AOper :=
 [oQ 4 (.mv (.const (.int .i64 1))) []]
def l34r5:List AOper :=
 [oQ 12 (.mv Z4) [],oQ 13 (.mv Z0) [],oQ 14 (.len Z13) [1],oQ 15 (.bin .lss Z12 Z14) [0,2]]
def l34r6:List AOper :=
 [oQ 18 (.mv Z3) [],oQ 19 (.mv Z0) [],oQ 20 (.mv Z4) [],oQ 21 (.idxA 1 Z19 Z20) [1,2],oQ 22 (.load false 1 Z21) [3],oQ 23 (.minmax true Z18 Z22) [0,4],oQ 3 (.mv Z23) (5::uQ 6)]
def l34r7:List AOper :=
 [oQ 16 (.mv Z4) [],oQ 17 (.bin .add Z16 (.const (.int .i64 1))) [0],oQ 4 (.mv Z17) [1,0,1]]
def l34r8:List AOper :=
 [oQ 24 (.mv Z3) [],oQ 2 (.mv Z24) [0,0]]
def l34:AFn :=
 (AFn.mk 25 1 (.seq (.reg l34r0) (.seq (.seq (.reg l34r1) (.cond (.tmp 7) (.reg l34r2) .skip)) (.seq (.reg l34r3) (.seq (.seq (.reg l34r4) (.block 0 (.loop (.seq (.seq (.reg l34r5) (.cond (.tmp 15) .skip (.exit 0))) (.seq (.block 1 (.reg l34r6)) (.reg l34r7)))))) (.seq (.reg l34r8) .ret))))) [.tmp 2])
theorem l34_eq:lowFn Tryd.prog 34=some l34:=by kernel_rfl
def l35r0:List AOper :=
 [oQ 4 (.mv (.const (.bool false))) []]
def l35r1:List AOper :=
 [oQ 5 (.mv Z0) [],oQ 6 (.bin .leq (.const (.int .i64 0)) Z5) [0],oQ 7 (.mv Z6) [1],gQ 8 (.mv Z0) (some (7,true)) [2],gQ 9 (.mv Z1) (some (7,true)) [2],gQ 10 (.bin .leq Z8 Z9) (some (7,true)) [3,4,2],oQ 11 (.pick Z7 Z10 (.const (.bool false))) [2,5],oQ 4 (.mv Z11) (6::2::uQ 7)]
def l35:AFn :=
 (AFn.mk 12 2 (.seq (.reg l35r0) (.seq (.reg l35r1) .ret)) [.tmp 4])
theorem l35_eq:lowFn Tryd.prog 35=some l35:=by kernel_rfl
def l36r0:List AOper :=
 [oQ 2 (.mv (.const (.int .i64 0))) []]
def l36r1:List AOper :=
 [oQ 3 (.mv (.const (.int .i64 1))) []]
def l36r2:List AOper :=
 [oQ 4 (.mv Z0) [],oQ 5 (.mv (.const (.int .i64 0))) []]
def l36r3:List AOper :=
 [oQ 6 (.bin .lss Z5 Z4) []]
def l36r4:List AOper :=
 [oQ 7 (.mv Z3) [],oQ 8 (.bin .mul Z7 (.const (.int .i64 256))) [0],oQ 3 (.mv Z8) [1,0,1]]
def l36r5:List AOper :=
 [oQ 9 (.bin .add Z5 (.const (.int .i64 1))) [],oQ 5 (.mv Z9) [0]]
def l36r6:List AOper :=
 [oQ 10 (.mv Z3) [],oQ 11 (.bin .sub Z10 (.const (.int .i64 1))) [0],oQ 2 (.mv Z11) [1,0,1]]
def l36:AFn :=
 (AFn.mk 12 1 (.seq (.reg l36r0) (.seq (.reg l36r1) (.seq (.seq (.reg l36r2) (.block 0 (.loop (.seq (.reg l36r3) (.seq (.cond (.tmp 6) .skip (.exit 0)) (.seq (.block 1 (.reg l36r4)) (.reg l36r5))))))) (.seq (.reg l36r6) .ret)))) [.tmp 2])
theorem l36_eq:lowFn Tryd.prog 36=some l36:=by kernel_rfl
def l37r0:List AOper :=
 [oQ 1 (.box Z0) [],oQ 2 (.alloc [.nilFunc]) []]
def l37r1:List AOper :=
 [oQ 3 (.fld 1 Z1) [],oQ 4 (.load false 1 Z3) [0]]
def l37r2:List AOper :=
 [oQ 5 (.build [.nilFunc] [(0,1,.func 41)]) [],nQ (.store 1 Z2 Z5) [0,0]]
def l37r3:List AOper :=
 [oQ 6 (.build [.nilFunc] [(0,1,.func 42)]) [],nQ (.store 1 Z2 Z6) [0,0]]
def l37:AFn :=
 (AFn.mk 7 1 (.seq (.reg l37r0) (.seq (.seq (.reg l37r1) (.cond (.tmp 4) (.seq (.reg l37r2) .ret) .skip)) (.seq (.reg l37r3) .ret))) [.cell 2 true 1])
theorem l37_eq:lowFn Tryd.prog 37=some l37:=by kernel_rfl
def l38r0:List AOper :=
 [oQ 4 (.box Z0) [],oQ 6 (.box Z2) []]
def l38r1:List AOper :=
 [oQ 9 (.fld 1 Z6) [],oQ 10 (.load false 1 Z9) [0],oQ 11 (.mv (.const (.int .i64 0))) []]
def l38r2:List AOper :=
 [oQ 12 (.bin .lss Z11 Z10) []]
def l38r3:List AOper :=
 [oQ 13 (.mv Z11) [],oQ 8 (.mv Z13) [0,0]]
def l38r4:List AOper :=
 [oQ 14 (.mv Z1) [],oQ 15 (.load true 1 Z4) [],oQ 16 (.load true 2 Z6) [],oQ 17 (.mv Z8) [],oQ 18 (.call 43 [Z15,Z16,Z17]) [1,2,3],oQ 19 (.mv Z3) [],oQ 20 (.bin .rem Z19 (.const (.int .i64 256))) [5],oQ 21 (.idxA 1 Z14 Z18) (0::4::uQ 7),nQ (.store 1 Z21 Z20) (7::6::4::uQ 7)]
def l38r5:List AOper :=
 [oQ 22 (.mv Z3) [],oQ 23 (.bin .quo Z22 (.const (.int .i64 256))) [0],oQ 3 (.mv Z23) [1,0,1]]
def l38r6:List AOper :=
 [oQ 24 (.bin .add Z11 (.const (.int .i64 1))) [],oQ 11 (.mv Z24) [0]]
def l38:AFn :=
 (AFn.mk 25 4 (.seq (.reg l38r0) (.seq (.reg l38r1) (.block 0 (.loop (.seq (.reg l38r2) (.seq (.cond (.tmp 12) .skip (.exit 0)) (.seq (.block 1 (.seq (.reg l38r3) (.seq (.reg l38r4) (.reg l38r5)))) (.reg l38r6)))))))) [])
theorem l38_eq:lowFn Tryd.prog 38=some l38:=by kernel_rfl
def l39r0:List AOper :=
 [oQ 4 (.mv (.const (.int .i64 0))) []]
def l39r1:List AOper :=
 [oQ 5 (.mv Z0) [],oQ 6 (.mv Z1) [],oQ 7 (.bin .add Z5 Z6) [0,1],oQ 8 (.bin .sub Z7 (.const (.int .i64 1))) [2],oQ 9 (.mv Z1) [],oQ 10 (.bin .quo Z8 Z9) [3,4],oQ 11 (.mv Z1) [],oQ 12 (.bin .mul Z10 Z11) [5,6],oQ 4 (.mv Z12) (7::uQ 8)]
def l39:AFn :=
 (AFn.mk 13 2 (.seq (.reg l39r0) (.seq (.reg l39r1) .ret)) [.tmp 4])
theorem l39_eq:lowFn Tryd.prog 39=some l39:=by kernel_rfl
def l40r0:List AOper :=
 [oQ 2 (.mv (.const (.slice none 0 0))) []]
def l40r1:List AOper :=
 [oQ 5 (.bslice 1 [.int .i64 0] [] 0) [],oQ 3 (.mv Z5) [0,0]]
def l40r2:List AOper :=
 [oQ 6 (.mv Z0) [],oQ 7 (.len Z6) [0],oQ 8 (.bin .sub Z7 (.const (.int .i64 1))) [1],oQ 4 (.mv Z8) [2,0,1,2]]
def l40r3:List AOper :=
 [oQ 9 (.mv Z4) [],oQ 10 (.bin .geq Z9 (.const (.int .i64 0))) [0]]
def l40r4:List AOper :=
 [oQ 13 (.mv Z3) [],oQ 14 (.mv Z0) [],oQ 15 (.mv Z4) [],oQ 16 (.idxA 1 Z14 Z15) [1,2],oQ 17 (.load false 1 Z16) [3],oQ 18 (.bslice 1 [.int .i64 0] [(0,Z17)] 1) [4],oQ 19 (.append 1 Z13 Z18) [0,5],oQ 3 (.mv Z19) (6::6::uQ 7)]
def l40r5:List AOper :=
 [oQ 11 (.mv Z4) [],oQ 12 (.bin .sub Z11 (.const (.int .i64 1))) [0],oQ 4 (.mv Z12) [1,0,1]]
def l40r6:List AOper :=
 [oQ 20 (.mv Z3) [],oQ 2 (.mv Z20) [0,0]]
def l40:AFn :=
 (AFn.mk 21 1 (.seq (.reg l40r0) (.seq (.reg l40r1) (.seq (.seq (.reg l40r2) (.block 0 (.loop (.seq (.seq (.reg l40r3) (.cond (.tmp 10) .skip (.exit 0))) (.seq (.block 1 (.reg l40r4)) (.reg l40r5)))))) (.seq (.reg l40r6) .ret)))) [.tmp 2])
theorem l40_eq:lowFn Tryd.prog 40=some l40:=by kernel_rfl
attribute [push_cast] l3r0 l3r1 l3r2 l3r3 l3r4 l3r5 l3r6 l3r7 l3r8 l3r9 l3r10 l3r11 l3r12 l3r13 l3r14a l3r14b l3r14 l3r15 l3r16 l3r17 l3r18 l3r19 l3r20 l3r21 l3r22 l3r23 l3r24 l3r25 l3r26 l3r27 l3r28 l3r29 l3r30 l3r31 l3r32 l3r33 l3r34 l3r35 l3r36 l3r37 l3r38 l3r39 l3r40 l4r0 l4r1 l4r2 l4r3 l4r4 l5r0 l5r1 l5r2 l5r3 l5r4 l5r5 l5r6 l5r7 l5r8 l5r9 l5r10 l6r0 l6r1 l6r2 l6r3 l6r4 l6r5 l6r6a l6r6b l6r6 l6r7 l6r8a l6r8b l6r8 l6r9 l6r10 l6r11 l6r12 l7r0 l7r1 l7r2 l7r3 l7r4 l7r5 l8r0 l8r1 l8r2 l8r3 l8r4 l8r5 l8r6 l9r0 l9r1 l9r2 l9r3 l9r4 l9r5 l9r6 l9r7 l9r8 l9r9 l9r10 l9r11 l10r0 l10r1 l10r2 l10r3 l10r4 l10r5a l10r5b l10r5 l10r6 l10r7 l10r8 l11r0 l11r1 l11r2 l11r3 l11r4 l11r5 l11r6 l11r7 l12r0 l12r1 l12r2 l12r3 l12r4 l12r5a l12r5b l12r5 l12r6 l12r7 l12r8 l13r0 l13r1 l13r2 l14r0 l14r1 l14r2 l14r3 l14r4 l14r5 l15r0 l15r1 l15r2 l15r3 l15r4 l15r5 l15r6 l16r0 l16r1 l16r2 l16r3 l16r4 l16r5 l16r6 l16r7 l17r0 l17r1 l17r2 l17r3 l17r4 l18r0 l18r1 l18r2 l18r3 l18r4 l18r5 l18r6 l19r0 l19r1 l19r2 l19r3 l19r4 l19r5a l19r5b l19r5 l19r6 l19r7 l19r8 l20r0 l20r1 l20r2 l20r3 l20r4 l20r5a l20r5b l20r5 l20r6 l20r7 l20r8a l20r8b l20r8 l20r9 l20r10 l20r11 l21r0 l21r1 l21r2 l21r3 l21r4 l21r5 l21r6 l22r0 l22r1 l22r2 l22r3 l22r4 l22r5 l22r6 l22r7 l22r8 l22r9 l23r0 l23r1a l23r1b l23r1 l23r2a l23r2b l23r2 l24r0 l24r1 l24r2 l24r3 l24r4 l24r5 l24r6 l24r7 l24r8 l24r9 l25r0 l25r1a l25r1b l25r1 l25r2 l25r3 l25r4 l25r5a l25r5b l25r5 l25r6 l25r7 l26r0 l26r1 l27r0 l27r1 l27r2 l27r3 l27r4 l27r5 l27r6 l28r0 l28r1 l28r2 l28r3 l28r4 l28r5 l28r6 l28r7 l28r8 l28r9 l28r10 l28r11 l28r12 l29r0 l29r1 l29r2 l29r3 l29r4 l29r5 l29r6 l29r7 l29r8 l29r9 l30r0 l30r1 l30r2 l30r3 l30r4 l30r5 l30r6 l30r7 l31r0 l31r1 l31r2 l31r3 l31r4 l31r5 l31r6 l31r7 l31r8 l31r9 l32r0 l32r1 l32r2 l32r3 l33r0 l33r1 l34r0 l34r1 l34r2 l34r3 l34r4 l34r5 l34r6 l34r7 l34r8 l35r0 l35r1 l36r0 l36r1 l36r2 l36r3 l36r4 l36r5 l36r6 l37r0 l37r1 l37r2 l37r3 l38r0 l38r1 l38r2 l38r3 l38r4 l38r5 l38r6 l39r0 l39r1 l40r0 l40r1 l40r2 l40r3 l40r4 l40r5 l40r6
end Go.Proofs.YtjmcjjbhkiebkaaDoor
