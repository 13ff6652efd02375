import Derived.Test.YtkpcjppnjmhanaaGreatDoorCW3
import Derived.Test.YtkpcjppnjmhanaaGreatDoorProg
import Derived.KernelRfl
set_option maxRecDepth 100000
namespace Go.Proofs.YtkpcjppnjmhanaaGreatDoor
open Vw Go
/-- Where the sentinel error lies. -/
class SentA where
  a:Addr
instance globs [SentA]:Inhabited GlobT:=⟨⟨[(0,[.iface 200 (.pointer (some SentA.a))])]⟩⟩
attribute [push_cast] Bool.false_eq_true List.length_replicate
attribute [bitvec_to_nat] decide_eq_true_eq decide_eq_false_iff_not Bool.not_eq_true' Bool.not_eq_false' Bool.and_eq_true Bool.or_eq_true Bool.and_eq_false_iff Bool.or_eq_false_iff Int.not_le Int.not_lt bne_iff_ne ne_eq beq_iff_eq Bool.not_eq_true Bool.not_eq_false
theorem sd {P:Prop} (h:P:=by first|assumption|rfl|omega|(simp<;>omega)|(simp_all<;>omega)):P:=h
abbrev oQ (d:Nat) (p:AOp) (a:List Nat):AOper:=⟨some d,p,none,a⟩
abbrev gQ (d:Nat) (p:AOp) (g:Option (Nat × Bool)) (a:List Nat):AOper:=⟨some d,p,g,a⟩
abbrev nQ (p:AOp) (a:List Nat):AOper:=⟨none,p,none,a⟩
abbrev Z0:=Operand.tmp 0
abbrev Z1:=Operand.tmp 1
abbrev Z2:=Operand.tmp 2
abbrev Z3:=Operand.tmp 3
abbrev Z4:=Operand.tmp 4
abbrev Z5:=Operand.tmp 5
abbrev Z6:=Operand.tmp 6
abbrev Z7:=Operand.tmp 7
abbrev Z8:=Operand.tmp 8
abbrev Z9:=Operand.tmp 9
abbrev Z10:=Operand.tmp 10
abbrev Z11:=Operand.tmp 11
abbrev Z12:=Operand.tmp 12
abbrev Z13:=Operand.tmp 13
abbrev Z14:=Operand.tmp 14
abbrev Z15:=Operand.tmp 15
abbrev Z16:=Operand.tmp 16
abbrev Z17:=Operand.tmp 17
abbrev Z18:=Operand.tmp 18
abbrev Z19:=Operand.tmp 19
abbrev Z20:=Operand.tmp 20
abbrev Z21:=Operand.tmp 21
abbrev Z22:=Operand.tmp 22
abbrev Z23:=Operand.tmp 23
abbrev Z24:=Operand.tmp 24
abbrev Z25:=Operand.tmp 25
abbrev Z26:=Operand.tmp 26
abbrev Z27:=Operand.tmp 27
abbrev Z28:=Operand.tmp 28
abbrev Z29:=Operand.tmp 29
abbrev Z30:=Operand.tmp 30
abbrev Z31:=Operand.tmp 31
abbrev Z32:=Operand.tmp 32
abbrev Z33:=Operand.tmp 33
abbrev Z34:=Operand.tmp 34
abbrev Z35:=Operand.tmp 35
abbrev Z36:=Operand.tmp 36
abbrev Z37:=Operand.tmp 37
abbrev Z38:=Operand.tmp 38
abbrev Z39:=Operand.tmp 39
abbrev Z40:=Operand.tmp 40
abbrev Z41:=Operand.tmp 41
abbrev Z42:=Operand.tmp 42
abbrev Z43:=Operand.tmp 43
abbrev Z44:=Operand.tmp 44
abbrev Z45:=Operand.tmp 45
abbrev Z46:=Operand.tmp 46
abbrev Z47:=Operand.tmp 47
abbrev Z48:=Operand.tmp 48
abbrev Z49:=Operand.tmp 49
abbrev Z50:=Operand.tmp 50
abbrev Z51:=Operand.tmp 51
abbrev Z52:=Operand.tmp 52
abbrev Z53:=Operand.tmp 53
abbrev Z54:=Operand.tmp 54
abbrev Z55:=Operand.tmp 55
abbrev Z56:=Operand.tmp 56
abbrev Z57:=Operand.tmp 57
abbrev Z58:=Operand.tmp 58
abbrev Z59:=Operand.tmp 59
abbrev Z60:=Operand.tmp 60
abbrev Z61:=Operand.tmp 61
abbrev Z62:=Operand.tmp 62
abbrev Z63:=Operand.tmp 63
abbrev Z64:=Operand.tmp 64
abbrev Z65:=Operand.tmp 65
abbrev Z66:=Operand.tmp 66
abbrev Z67:=Operand.tmp 67
abbrev Z68:=Operand.tmp 68
abbrev Z69:=Operand.tmp 69
abbrev Z70:=Operand.tmp 70
abbrev Z71:=Operand.tmp 71
abbrev Z72:=Operand.tmp 72
abbrev Z73:=Operand.tmp 73
abbrev Z74:=Operand.tmp 74
abbrev Z75:=Operand.tmp 75
abbrev Z76:=Operand.tmp 76
abbrev Z77:=Operand.tmp 77
abbrev Z78:=Operand.tmp 78
abbrev Z79:=Operand.tmp 79
abbrev Z80:=Operand.tmp 80
abbrev Z81:=Operand.tmp 81
abbrev Z82:=Operand.tmp 82
abbrev Z83:=Operand.tmp 83
abbrev Z84:=Operand.tmp 84
abbrev Z85:=Operand.tmp 85
abbrev Z86:=Operand.tmp 86
abbrev Z87:=Operand.tmp 87
abbrev Z88:=Operand.tmp 88
abbrev Z89:=Operand.tmp 89
abbrev Z90:=Operand.tmp 90
abbrev Z91:=Operand.tmp 91
abbrev Z92:=Operand.tmp 92
abbrev Z93:=Operand.tmp 93
abbrev Z94:=Operand.tmp 94
abbrev Z95:=Operand.tmp 95
abbrev Z96:=Operand.tmp 96
abbrev Z97:=Operand.tmp 97
abbrev Z98:=Operand.tmp 98
abbrev Z99:=Operand.tmp 99
abbrev Z100:=Operand.tmp 100
abbrev Z101:=Operand.tmp 101
abbrev Z102:=Operand.tmp 102
abbrev Z103:=Operand.tmp 103
abbrev Z104:=Operand.tmp 104
abbrev Z105:=Operand.tmp 105
def l8r0:List AOper :=
  [oQ 2 (.mv (.const (.bool false))) []]
def l8r1:List AOper :=
  [oQ 12 (.mv Z0) [],oQ 13 (.len Z12) [0],oQ 14 (.bin .gtr Z13 (.const (.int .i64 1048576))) [1]]
def l8r2:List AOper :=
  [oQ 2 (.mv (.const (.bool true))) []]
def l8r3:List AOper :=
  [oQ 16 (.mv Z0) [],oQ 17 (.call 35 [Z16]) [0],oQ 15 (.mv Z17) [1],oQ 18 (.extract Z15 0) [2],oQ 19 (.extract Z15 1) [2],oQ 20 (.extract Z15 2) [2],oQ 21 (.extract Z15 3) [2],oQ 3 (.alloc [.slice none 0 0,.slice none 0 0]) [],oQ 6 (.alloc [.int .i64 0,.int .i64 0,.int .i64 0,.bool false,.bool false]) [],nQ (.store 2 Z3 Z18) [7,3,1,0,1,2,3,7,8],oQ 4 (.mv Z19) [4,9,0,1,2,3,4,7,8,9],oQ 5 (.mv Z20) [5,10,0,1,2,3,4,5,7,8,9,10],nQ (.store 5 Z6 Z21) [8,6,11,0,1,2,3,4,5,6,7,8,9,10,11]]
def l8r4:List AOper :=
  [oQ 23 (.load true 2 Z3) [],oQ 24 (.mv Z4) [],oQ 25 (.mv Z5) [],oQ 26 (.load true 5 Z6) [],oQ 27 (.call 36 [Z23,Z24,Z25,Z26]) [0,1,2,3],oQ 22 (.mv Z27) [4],oQ 28 (.extract Z22 0) [5],oQ 29 (.extract Z22 1) [5],oQ 7 (.alloc [.slice none 0 0,.slice none 0 0]) [],nQ (.store 2 Z7 Z28) [8,6,4,0,1,2,3,4,5,6,8],oQ 8 (.mv Z29) [7,9,0,1,2,3,4,5,6,7,8,9]]
def l8r5:List AOper :=
  [oQ 31 (.load true 2 Z3) [],oQ 32 (.mv Z4) [],oQ 33 (.mv Z5) [],oQ 34 (.load true 5 Z6) [],oQ 35 (.call 37 [Z31,Z32,Z33,Z34]) [0,1,2,3],oQ 30 (.mv Z35) [4],oQ 36 (.extract Z30 0) [5],oQ 37 (.extract Z30 1) [5],oQ 9 (.alloc [.slice none 0 0,.slice none 0 0]) [],nQ (.store 2 Z9 Z36) [8,6,4,0,1,2,3,4,5,6,8],oQ 10 (.mv Z37) [7,9,0,1,2,3,4,5,6,7,8,9]]
def l8r6:List AOper :=
  [oQ 38 (.load true 2 Z7) [],oQ 39 (.load true 2 Z9) [],oQ 40 (.call 12 [Z38,Z39]) [0,1],oQ 41 (.un .not Z40) [2],oQ 42 (.mv Z41) [3,2],gQ 43 (.mv Z8) (some (42,false)) [4],gQ 44 (.mv Z10) (some (42,false)) [4],gQ 45 (.binB .neq Z43 Z44) (some (42,false)) [5,6,4],oQ 46 (.pick Z42 (.const (.bool true)) Z45) [4,7],oQ 47 (.mv Z46) [8,4],gQ 48 (.mv Z8) (some (47,false)) [9],gQ 49 (.un .not Z48) (some (47,false)) [10,9],oQ 50 (.pick Z47 (.const (.bool true)) Z49) [9,11]]
def l8r7:List AOper :=
  [oQ 51 (.load true 2 Z7) [],oQ 52 (.load true 2 Z9) [],oQ 53 (.call 12 [Z51,Z52]) [0,1],oQ 54 (.mv Z53) [2,2],gQ 55 (.mv Z8) (some (54,true)) [3],gQ 56 (.mv Z10) (some (54,true)) [3],gQ 57 (.binB .eql Z55 Z56) (some (54,true)) [4,5,3],oQ 58 (.pick Z54 Z57 (.const (.bool false))) [3,6],oQ 2 (.mv Z58) [7,3,0,1,2,3,4,5,6,7]]
def l8r8:List AOper :=
  [oQ 59 (.fld 1 Z3) [],oQ 60 (.load false 1 Z59) [0],oQ 61 (.len Z60) [1],oQ 11 (.mv Z61) [2,0,1,2]]
def l8r9a:List AOper :=
  [oQ 62 (.fld 1 Z7) [],oQ 63 (.load false 1 Z62) [0],oQ 64 (.mv Z4) [],oQ 65 (.idxA 5 Z63 Z64) [1,2],oQ 66 (.fld 1 Z65) [3],oQ 67 (.load true 3 Z66) [4],oQ 68 (.fld 1 Z7) [],oQ 69 (.load false 1 Z68) [6],oQ 70 (.mv Z11) [],oQ 71 (.idxA 5 Z69 Z70) [7,8],oQ 72 (.fld 1 Z71) [9],oQ 73 (.load true 3 Z72) [10],oQ 74 (.call 38 [Z67,Z73]) [5,11],oQ 75 (.mv Z74) [12,12],gQ 76 (.load true 2 Z7) (some (75,true)) [13],gQ 77 (.mv Z4) (some (75,true)) [13],gQ 78 (.call 39 [Z76,Z77]) (some (75,true)) [14,15,13,13],gQ 79 (.mv Z11) (some (75,true)) [13]]
def l8r9b:List AOper :=
  [gQ 80 (.call 13 [Z78,Z79]) (some (75,true)) [16,17,16,13],oQ 81 (.pick Z75 Z80 (.const (.bool false))) [13,18],oQ 82 (.mv Z81) [19,18],gQ 83 (.load true 2 Z7) (some (82,true)) [20],gQ 84 (.call 19 [Z83]) (some (82,true)) [21,20,20],oQ 85 (.pick Z82 Z84 (.const (.bool false))) [20,22],oQ 2 (.mv Z85) [23,22,0,1,2,3,4,5,6,7,8,9,10,11,12,13,14,15,16,17,18,19,20,21,22,23]]
def l8r9:List AOper:=l8r9a ++ l8r9b
def l8:AFn :=
  (AFn.mk 86 1 (.seq (.reg l8r0) (.seq (.seq (.reg l8r1) (.cond (.tmp 14) (.seq (.reg l8r2) .ret) .skip)) (.seq (.reg l8r3) (.seq (.reg l8r4) (.seq (.reg l8r5) (.seq (.seq (.reg l8r6) (.cond (.tmp 50) (.seq (.reg l8r7) .ret) .skip)) (.seq (.reg l8r8) (.seq (.draw l8r9) .ret)))))))) [.tmp 2])
theorem l8_eq:lowFn Tryz.prog 8=some l8:=by kernel_rfl
def l11r0:List AOper :=
  [oQ 2 (.box Z0) [],oQ 4 (.alloc [.slice none 0 0,.slice none 0 0]) [],oQ 5 (.mv (.const (.bool false))) []]
def l11r1:List AOper :=
  [oQ 7 (.load true 2 Z2) [],oQ 8 (.call 47 [Z7]) [0],oQ 9 (.un .not Z8) [1],oQ 10 (.mv Z9) [2,1],gQ 11 (.load true 2 Z2) (some (10,false)) [3],gQ 12 (.mv Z1) (some (10,false)) [3],gQ 13 (.call 48 [Z11,Z12]) (some (10,false)) [4,5,3,3],gQ 14 (.un .not Z13) (some (10,false)) [6,3],oQ 15 (.pick Z10 (.const (.bool true)) Z14) [3,7],oQ 16 (.mv Z15) [8,6],gQ 17 (.load true 2 Z2) (some (16,false)) [9],gQ 18 (.mv Z1) (some (16,false)) [9],gQ 19 (.call 49 [Z17,Z18]) (some (16,false)) [10,11,9,9],gQ 20 (.len Z19) (some (16,false)) [12,9],gQ 21 (.bin .gtr Z20 (.const (.int .i64 0))) (some (16,false)) [13,9],oQ 22 (.pick Z16 (.const (.bool true)) Z21) [9,14]]
def l11r2:List AOper :=
  [oQ 23 (.build [.slice none 0 0,.slice none 0 0] []) [],nQ (.store 2 Z4 Z23) [0,0],oQ 5 (.mv (.const (.bool false))) [1,0,1]]
def l11r3:List AOper :=
  [oQ 24 (.load true 2 Z2) [],oQ 25 (.call 50 [Z24]) [0],oQ 6 (.alloc [.slice none 0 0,.slice none 0 0]) [],nQ (.store 2 Z6 Z25) [2,1,1,0,1,2]]
def l11r4:List AOper :=
  [oQ 26 (.fld 1 Z6) [],oQ 27 (.load false 1 Z26) [0],oQ 28 (.mv Z1) [],oQ 29 (.idxA 5 Z27 Z28) [1,2,0,1,2],oQ 30 (.fld 4 Z29) [3,0,1,2],nQ (.store 1 Z30 (.const (.bool false))) [4,0,1,2]]
def l11r5:List AOper :=
  [oQ 31 (.load true 2 Z6) [],nQ (.store 2 Z4 Z31) [0,0],oQ 5 (.mv (.const (.bool true))) [1,0,1]]
def l11:AFn :=
  (AFn.mk 32 2 (.seq (.reg l11r0) (.seq (.seq (.reg l11r1) (.cond (.tmp 22) (.seq (.reg l11r2) .ret) .skip)) (.seq (.reg l11r3) (.seq (.reg l11r4) (.seq (.reg l11r5) .ret))))) [.cell 4 true 2,.tmp 5])
theorem l11_eq:lowFn Tryz.prog 11=some l11:=by kernel_rfl
def l12r0:List AOper :=
  [oQ 2 (.box Z0) [],oQ 3 (.box Z1) [],oQ 4 (.mv (.const (.bool false))) []]
def l12r1:List AOper :=
  [oQ 8 (.fld 0 Z2) [],oQ 9 (.load false 1 Z8) [0],oQ 10 (.fld 0 Z3) [],oQ 11 (.load false 1 Z10) [2],oQ 12 (.call 15 [Z9,Z11]) [1,3],oQ 13 (.un .not Z12) [4],oQ 14 (.mv Z13) [5,4],gQ 15 (.fld 1 Z2) (some (14,false)) [6],gQ 16 (.load false 1 Z15) (some (14,false)) [7,6],gQ 17 (.len Z16) (some (14,false)) [8,6],gQ 18 (.fld 1 Z3) (some (14,false)) [6],gQ 19 (.load false 1 Z18) (some (14,false)) [10,6],gQ 20 (.len Z19) (some (14,false)) [11,6],gQ 21 (.bin .neq Z17 Z20) (some (14,false)) [9,12,6],oQ 22 (.pick Z14 (.const (.bool true)) Z21) [6,13]]
def l12r2:List AOper :=
  [oQ 4 (.mv (.const (.bool false))) []]
def l12r3:List AOper :=
  [oQ 5 (.mv (.const (.int .i64 0))) []]
def l12r4:List AOper :=
  [oQ 23 (.mv Z5) [],oQ 24 (.fld 1 Z2) [],oQ 25 (.load false 1 Z24) [1],oQ 26 (.len Z25) [2],oQ 27 (.bin .lss Z23 Z26) [0,3]]
def l12r5:List AOper :=
  [oQ 30 (.fld 1 Z2) [],oQ 31 (.load false 1 Z30) [0],oQ 32 (.mv Z5) [],oQ 33 (.idxA 5 Z31 Z32) [1,2],oQ 34 (.load true 5 Z33) [3],oQ 6 (.alloc [.int .i64 0,.int .i64 0,.slice none 0 0,.slice none 0 0,.bool false]) [],nQ (.store 5 Z6 Z34) [5,4,0,1,2,3,4,5]]
def l12r6:List AOper :=
  [oQ 35 (.fld 1 Z3) [],oQ 36 (.load false 1 Z35) [0],oQ 37 (.mv Z5) [],oQ 38 (.idxA 5 Z36 Z37) [1,2],oQ 39 (.load true 5 Z38) [3],oQ 7 (.alloc [.int .i64 0,.int .i64 0,.slice none 0 0,.slice none 0 0,.bool false]) [],nQ (.store 5 Z7 Z39) [5,4,0,1,2,3,4,5]]
def l12r7:List AOper :=
  [oQ 40 (.fld 0 Z6) [],oQ 41 (.load false 1 Z40) [0],oQ 42 (.fld 0 Z7) [],oQ 43 (.load false 1 Z42) [2],oQ 44 (.bin .neq Z41 Z43) [1,3],oQ 45 (.mv Z44) [4],gQ 46 (.fld 4 Z6) (some (45,false)) [5],gQ 47 (.load false 1 Z46) (some (45,false)) [6,5],gQ 48 (.fld 4 Z7) (some (45,false)) [5],gQ 49 (.load false 1 Z48) (some (45,false)) [8,5],gQ 50 (.binB .neq Z47 Z49) (some (45,false)) [7,9,5],oQ 51 (.pick Z45 (.const (.bool true)) Z50) [5,10],oQ 52 (.mv Z51) [11,5],gQ 53 (.fld 1 Z6) (some (52,false)) [12],gQ 54 (.load true 3 Z53) (some (52,false)) [13,12],gQ 55 (.fld 1 Z7) (some (52,false)) [12],gQ 56 (.load true 3 Z55) (some (52,false)) [15,12],gQ 57 (.call 51 [Z54,Z56]) (some (52,false)) [14,16,12,12],gQ 58 (.un .not Z57) (some (52,false)) [17,12],oQ 59 (.pick Z52 (.const (.bool true)) Z58) [12,18]]
def l12r8:List AOper :=
  [oQ 4 (.mv (.const (.bool false))) []]
def l12r9:List AOper :=
  [oQ 28 (.mv Z5) [],oQ 29 (.bin .add Z28 (.const (.int .i64 1))) [0],oQ 5 (.mv Z29) [1,0,1]]
def l12r10:List AOper :=
  [oQ 4 (.mv (.const (.bool true))) []]
def l12:AFn :=
  (AFn.mk 60 2 (.seq (.reg l12r0) (.seq (.seq (.reg l12r1) (.cond (.tmp 22) (.seq (.reg l12r2) .ret) .skip)) (.seq (.seq (.reg l12r3) (.block 0 (.loop (.seq (.seq (.reg l12r4) (.cond (.tmp 27) .skip (.exit 0))) (.seq (.block 1 (.seq (.reg l12r5) (.seq (.reg l12r6) (.seq (.reg l12r7) (.cond (.tmp 59) (.seq (.reg l12r8) .ret) .skip))))) (.reg l12r9)))))) (.seq (.reg l12r10) .ret)))) [.tmp 4])
theorem l12_eq:lowFn Tryz.prog 12=some l12:=by kernel_rfl
def l13r0:List AOper :=
  [oQ 4 (.mv (.const (.bool false))) []]
def l13r1:List AOper :=
  [oQ 5 (.mv (.const (.int .i64 0))) []]
def l13r2:List AOper :=
  [oQ 6 (.mv Z5) [],oQ 7 (.mv Z0) [],oQ 8 (.len Z7) [1],oQ 9 (.bin .lss Z6 Z8) [0,2]]
def l13r3:List AOper :=
  [oQ 12 (.mv Z0) [],oQ 13 (.mv Z5) [],oQ 14 (.idxA 1 Z12 Z13) [0,1],oQ 15 (.load false 1 Z14) [2],oQ 16 (.mv Z1) [],oQ 17 (.bin .eql Z15 Z16) [3,4]]
def l13r4:List AOper :=
  [oQ 4 (.mv (.const (.bool true))) []]
def l13r5:List AOper :=
  [oQ 10 (.mv Z5) [],oQ 11 (.bin .add Z10 (.const (.int .i64 1))) [0],oQ 5 (.mv Z11) [1,0,1]]
def l13r6:List AOper :=
  [oQ 4 (.mv (.const (.bool false))) []]
def l13:AFn :=
  (AFn.mk 18 2 (.seq (.reg l13r0) (.seq (.seq (.reg l13r1) (.block 0 (.loop (.seq (.seq (.reg l13r2) (.cond (.tmp 9) .skip (.exit 0))) (.seq (.block 1 (.seq (.reg l13r3) (.cond (.tmp 17) (.seq (.reg l13r4) .ret) .skip))) (.reg l13r5)))))) (.seq (.reg l13r6) .ret))) [.tmp 4])
theorem l13_eq:lowFn Tryz.prog 13=some l13:=by kernel_rfl
def l15r0:List AOper :=
  [oQ 4 (.mv (.const (.bool false))) []]
def l15r1:List AOper :=
  [oQ 6 (.mv Z0) [],oQ 7 (.len Z6) [0],oQ 8 (.mv Z1) [],oQ 9 (.len Z8) [2],oQ 10 (.bin .neq Z7 Z9) [1,3]]
def l15r2:List AOper :=
  [oQ 4 (.mv (.const (.bool false))) []]
def l15r3:List AOper :=
  [oQ 5 (.mv (.const (.int .i64 0))) []]
def l15r4:List AOper :=
  [oQ 11 (.mv Z5) [],oQ 12 (.mv Z0) [],oQ 13 (.len Z12) [1],oQ 14 (.bin .lss Z11 Z13) [0,2]]
def l15r5a:List AOper :=
  [oQ 17 (.mv Z0) [],oQ 18 (.mv Z5) [],oQ 19 (.idxA 1 Z17 Z18) [0,1],oQ 20 (.load false 1 Z19) [2],oQ 21 (.mv Z1) [],oQ 22 (.mv Z5) [],oQ 23 (.idxA 1 Z21 Z22) [4,5],oQ 24 (.load false 1 Z23) [6]]
def l15r5b:List AOper :=
  [oQ 25 (.bin .neq Z20 Z24) [3,7]]
def l15r5:List AOper:=l15r5a ++ l15r5b
def l15r6:List AOper :=
  [oQ 4 (.mv (.const (.bool false))) []]
def l15r7:List AOper :=
  [oQ 15 (.mv Z5) [],oQ 16 (.bin .add Z15 (.const (.int .i64 1))) [0],oQ 5 (.mv Z16) [1,0,1]]
def l15r8:List AOper :=
  [oQ 4 (.mv (.const (.bool true))) []]
def l15:AFn :=
  (AFn.mk 26 2 (.seq (.reg l15r0) (.seq (.seq (.reg l15r1) (.cond (.tmp 10) (.seq (.reg l15r2) .ret) .skip)) (.seq (.seq (.reg l15r3) (.block 0 (.loop (.seq (.seq (.reg l15r4) (.cond (.tmp 14) .skip (.exit 0))) (.seq (.block 1 (.seq (.draw l15r5) (.cond (.tmp 25) (.seq (.reg l15r6) .ret) .skip))) (.reg l15r7)))))) (.seq (.reg l15r8) .ret)))) [.tmp 4])
theorem l15_eq:lowFn Tryz.prog 15=some l15:=by kernel_rfl
def l19r0:List AOper :=
  [oQ 1 (.box Z0) [],oQ 2 (.mv (.const (.bool false))) []]
def l19r1:List AOper :=
  [oQ 7 (.fld 0 Z1) [],oQ 8 (.load false 1 Z7) [0],oQ 9 (.call 53 [Z8]) [1],oQ 10 (.un .not Z9) [2],oQ 11 (.mv Z10) [3,2],gQ 12 (.fld 1 Z1) (some (11,false)) [4],gQ 13 (.load false 1 Z12) (some (11,false)) [5,4],gQ 14 (.len Z13) (some (11,false)) [6,4],gQ 15 (.bin .gtr Z14 (.const (.int .i64 8))) (some (11,false)) [7,4],oQ 16 (.pick Z11 (.const (.bool true)) Z15) [4,8]]
def l19r2:List AOper :=
  [oQ 2 (.mv (.const (.bool false))) []]
def l19r3:List AOper :=
  [oQ 17 (.fld 1 Z1) [],oQ 18 (.load false 1 Z17) [0],oQ 19 (.len Z18) [1],oQ 20 (.mv (.const (.int .i64 0))) []]
def l19r4:List AOper :=
  [oQ 21 (.bin .lss Z20 Z19) []]
def l19r5:List AOper :=
  [oQ 22 (.mv Z20) [],oQ 23 (.idxA 5 Z18 Z20) [],oQ 24 (.load true 5 Z23) [1],oQ 4 (.alloc [.int .i64 0,.int .i64 0,.slice none 0 0,.slice none 0 0,.bool false]) [],oQ 3 (.mv Z22) [0,0,1,2,3],nQ (.store 5 Z4 Z24) [3,2,4,0,1,2,3,4]]
def l19r6:List AOper :=
  [oQ 25 (.load true 5 Z4) [],oQ 26 (.mv Z3) [],oQ 27 (.fld 0 Z1) [],oQ 28 (.load false 1 Z27) [2],oQ 29 (.len Z28) [3],oQ 30 (.call 54 [Z25,Z26,Z29]) [0,1,4],oQ 31 (.un .not Z30) [5]]
def l19r7:List AOper :=
  [oQ 2 (.mv (.const (.bool false))) []]
def l19r8:List AOper :=
  [oQ 32 (.bin .add Z20 (.const (.int .i64 1))) [],oQ 20 (.mv Z32) [0]]
def l19r9:List AOper :=
  [oQ 33 (.fld 1 Z1) [],oQ 34 (.load false 1 Z33) [0],oQ 35 (.len Z34) [1],oQ 36 (.mv (.const (.int .i64 0))) []]
def l19r10:List AOper :=
  [oQ 37 (.bin .lss Z36 Z35) []]
def l19r11:List AOper :=
  [oQ 38 (.mv Z36) [],oQ 39 (.idxA 5 Z34 Z36) [],oQ 40 (.load true 5 Z39) [1],oQ 6 (.alloc [.int .i64 0,.int .i64 0,.slice none 0 0,.slice none 0 0,.bool false]) [],oQ 5 (.mv Z38) [0,0,1,2,3],nQ (.store 5 Z6 Z40) [3,2,4,0,1,2,3,4]]
def l19r12a:List AOper :=
  [oQ 41 (.fld 4 Z6) [],oQ 42 (.load false 1 Z41) [0],oQ 43 (.un .not Z42) [1],oQ 44 (.mv Z43) [2],gQ 45 (.load true 2 Z1) (some (44,true)) [3],gQ 46 (.mv Z5) (some (44,true)) [3],gQ 47 (.call 44 [Z45,Z46]) (some (44,true)) [4,5,3,3],gQ 48 (.call 45 [Z47]) (some (44,true)) [6,6,3],gQ 49 (.load false 1 (.global 0)) (some (44,true)) [3]]
def l19r12b:List AOper :=
  [gQ 50 (.call 43 [Z48,Z49]) (some (44,true)) [7,8,7,3],oQ 51 (.pick Z44 Z50 (.const (.bool false))) [3,9]]
def l19r12:List AOper:=l19r12a ++ l19r12b
def l19r13:List AOper :=
  [oQ 2 (.mv (.const (.bool false))) []]
def l19r14:List AOper :=
  [oQ 52 (.bin .add Z36 (.const (.int .i64 1))) [],oQ 36 (.mv Z52) [0]]
def l19r15:List AOper :=
  [oQ 2 (.mv (.const (.bool true))) []]
def l19:AFn :=
  (AFn.mk 53 1 (.seq (.reg l19r0) (.seq (.seq (.reg l19r1) (.cond (.tmp 16) (.seq (.reg l19r2) .ret) .skip)) (.seq (.seq (.reg l19r3) (.block 0 (.loop (.seq (.reg l19r4) (.seq (.cond (.tmp 21) .skip (.exit 0)) (.seq (.block 1 (.seq (.reg l19r5) (.seq (.reg l19r6) (.cond (.tmp 31) (.seq (.reg l19r7) .ret) .skip)))) (.reg l19r8))))))) (.seq (.seq (.reg l19r9) (.block 2 (.loop (.seq (.reg l19r10) (.seq (.cond (.tmp 37) .skip (.exit 2)) (.seq (.block 3 (.seq (.reg l19r11) (.seq (.draw l19r12) (.cond (.tmp 51) (.seq (.reg l19r13) .ret) .skip)))) (.reg l19r14))))))) (.seq (.reg l19r15) .ret))))) [.tmp 2])
theorem l19_eq:lowFn Tryz.prog 19=some l19:=by kernel_rfl
def l23r0:List AOper :=
  [oQ 3 (.box Z0) [],oQ 6 (.alloc [.slice none 0 0,.slice none 0 0]) [],oQ 7 (.mv (.const (.bool false))) []]
def l23r1:List AOper :=
  [oQ 9 (.load true 2 Z3) [],oQ 10 (.call 47 [Z9]) [0],oQ 11 (.un .not Z10) [1],oQ 12 (.mv Z11) [2,1],gQ 13 (.load true 2 Z3) (some (12,false)) [3],gQ 14 (.mv Z1) (some (12,false)) [3],gQ 15 (.call 48 [Z13,Z14]) (some (12,false)) [4,5,3,3],gQ 16 (.un .not Z15) (some (12,false)) [6,3],oQ 17 (.pick Z12 (.const (.bool true)) Z16) [3,7],oQ 18 (.mv Z17) [8,6],gQ 19 (.mv Z2) (some (18,false)) [9],gQ 20 (.call 60 [Z19,.const (.int .i64 0),.const (.int .i64 255)]) (some (18,false)) [10,9,9],gQ 21 (.un .not Z20) (some (18,false)) [11,9],oQ 22 (.pick Z18 (.const (.bool true)) Z21) [9,12]]
def l23r2:List AOper :=
  [oQ 23 (.build [.slice none 0 0,.slice none 0 0] []) [],nQ (.store 2 Z6 Z23) [0,0],oQ 7 (.mv (.const (.bool false))) [1,0,1]]
def l23r3:List AOper :=
  [oQ 24 (.load true 2 Z3) [],oQ 25 (.call 50 [Z24]) [0],oQ 8 (.alloc [.slice none 0 0,.slice none 0 0]) [],nQ (.store 2 Z8 Z25) [2,1,1,0,1,2]]
def l23r4a:List AOper :=
  [oQ 27 (.fld 0 Z3) [],oQ 28 (.load false 1 Z27) [0],oQ 29 (.fld 1 Z3) [],oQ 30 (.load false 1 Z29) [2],oQ 31 (.mv Z1) [],oQ 32 (.idxA 5 Z30 Z31) [3,4],oQ 33 (.fld 1 Z32) [5],oQ 34 (.load true 3 Z33) [6],oQ 35 (.mv Z2) [],oQ 36 (.call 61 [Z28,Z34,Z35]) [1,7,8],oQ 26 (.mv Z36) [9],oQ 37 (.extract Z26 0) [10],oQ 38 (.extract Z26 1) [10],oQ 39 (.fld 0 Z8) [0,1,2,3,4,5,6,7,8,9,10,11],nQ (.store 1 Z39 Z37) [13,11,9,0,1,2,3,4,5,6,7,8,9,10,11]]
def l23r4b:List AOper :=
  []
def l23r4:List AOper:=l23r4a ++ l23r4b
def l23r5:List AOper :=
  [oQ 40 (.load true 2 Z8) [],nQ (.store 2 Z6 Z40) [0,0],oQ 7 (.mv (.const (.bool true))) [1,0,1]]
def l23:AFn :=
  (AFn.mk 41 3 (.seq (.reg l23r0) (.seq (.seq (.reg l23r1) (.cond (.tmp 22) (.seq (.reg l23r2) .ret) .skip)) (.seq (.reg l23r3) (.seq (.draw l23r4) (.seq (.reg l23r5) .ret))))) [.cell 6 true 2,.tmp 7])
theorem l23_eq:lowFn Tryz.prog 23=some l23:=by kernel_rfl
def l28r0:List AOper :=
  [oQ 3 (.box Z0) [],oQ 6 (.alloc [.slice none 0 0,.slice none 0 0]) [],oQ 7 (.mv (.const (.bool false))) []]
def l28r1:List AOper :=
  [oQ 11 (.load true 2 Z3) [],oQ 12 (.call 47 [Z11]) [0],oQ 13 (.un .not Z12) [1],oQ 14 (.mv Z13) [2,1],gQ 15 (.load true 2 Z3) (some (14,false)) [3],gQ 16 (.mv Z1) (some (14,false)) [3],gQ 17 (.call 48 [Z15,Z16]) (some (14,false)) [4,5,3,3],gQ 18 (.un .not Z17) (some (14,false)) [6,3],oQ 19 (.pick Z14 (.const (.bool true)) Z18) [3,7],oQ 20 (.mv Z19) [8,6],gQ 21 (.load true 2 Z3) (some (20,false)) [9],gQ 22 (.mv Z2) (some (20,false)) [9],gQ 23 (.call 48 [Z21,Z22]) (some (20,false)) [10,11,9,9],gQ 24 (.un .not Z23) (some (20,false)) [12,9],oQ 25 (.pick Z20 (.const (.bool true)) Z24) [9,13]]
def l28r2:List AOper :=
  [oQ 26 (.build [.slice none 0 0,.slice none 0 0] []) [],nQ (.store 2 Z6 Z26) [0,0],oQ 7 (.mv (.const (.bool false))) [1,0,1]]
def l28r3a:List AOper :=
  [oQ 28 (.fld 0 Z3) [],oQ 29 (.load false 1 Z28) [0],oQ 30 (.fld 1 Z3) [],oQ 31 (.load false 1 Z30) [2],oQ 32 (.mv Z1) [],oQ 33 (.idxA 5 Z31 Z32) [3,4],oQ 34 (.fld 1 Z33) [5],oQ 35 (.load true 3 Z34) [6],oQ 36 (.fld 1 Z3) [],oQ 37 (.load false 1 Z36) [8],oQ 38 (.mv Z2) [],oQ 39 (.idxA 5 Z37 Z38) [9,10],oQ 40 (.fld 1 Z39) [11],oQ 41 (.load true 3 Z40) [12],oQ 42 (.call 67 [Z29,Z35,Z41]) [1,7,13],oQ 27 (.mv Z42) [14],oQ 43 (.extract Z27 0) [15],oQ 44 (.extract Z27 1) [15],oQ 8 (.mv Z43) [16,14,0,1,2,3,4,5,6,7,8,9,10,11,12,13,14,15,16]]
def l28r3b:List AOper :=
  [oQ 9 (.mv Z44) [17,18,0,1,2,3,4,5,6,7,8,9,10,11,12,13,14,15,16,17,18]]
def l28r3:List AOper:=l28r3a ++ l28r3b
def l28r4:List AOper :=
  [oQ 45 (.mv Z9) [],oQ 46 (.un .not Z45) [0]]
def l28r5:List AOper :=
  [oQ 47 (.build [.slice none 0 0,.slice none 0 0] []) [],nQ (.store 2 Z6 Z47) [0,0],oQ 7 (.mv (.const (.bool false))) [1,0,1]]
def l28r6:List AOper :=
  [oQ 48 (.load true 2 Z3) [],oQ 49 (.call 50 [Z48]) [0],oQ 10 (.alloc [.slice none 0 0,.slice none 0 0]) [],nQ (.store 2 Z10 Z49) [2,1,1,0,1,2]]
def l28r7:List AOper :=
  [oQ 50 (.mv Z8) [],oQ 51 (.fld 0 Z10) [0],nQ (.store 1 Z51 Z50) [1,0,0]]
def l28r8:List AOper :=
  [oQ 52 (.load true 2 Z10) [],nQ (.store 2 Z6 Z52) [0,0],oQ 7 (.mv (.const (.bool true))) [1,0,1]]
def l28:AFn :=
  (AFn.mk 53 3 (.seq (.reg l28r0) (.seq (.seq (.reg l28r1) (.cond (.tmp 25) (.seq (.reg l28r2) .ret) .skip)) (.seq (.draw l28r3) (.seq (.seq (.reg l28r4) (.cond (.tmp 46) (.seq (.reg l28r5) .ret) .skip)) (.seq (.reg l28r6) (.seq (.reg l28r7) (.seq (.reg l28r8) .ret))))))) [.cell 6 true 2,.tmp 7])
theorem l28_eq:lowFn Tryz.prog 28=some l28:=by kernel_rfl
def l34r0:List AOper :=
  [oQ 2 (.box Z0) [],oQ 3 (.box Z1) [],oQ 4 (.alloc [.slice none 0 0,.slice none 0 0]) [],oQ 5 (.mv (.const (.bool false))) []]
def l34r1:List AOper :=
  [oQ 6 (.load true 2 Z2) [],oQ 7 (.call 47 [Z6]) [0],oQ 8 (.un .not Z7) [1],oQ 9 (.mv Z8) [2,1],gQ 10 (.load true 3 Z3) (some (9,false)) [3],gQ 11 (.call 72 [Z10]) (some (9,false)) [4,3,3],gQ 12 (.un .not Z11) (some (9,false)) [5,3],oQ 13 (.pick Z9 (.const (.bool true)) Z12) [3,6],oQ 14 (.mv Z13) [7,5],gQ 15 (.load true 3 Z3) (some (14,false)) [8],gQ 16 (.fld 0 Z2) (some (14,false)) [8],gQ 17 (.load false 1 Z16) (some (14,false)) [10,8],gQ 18 (.len Z17) (some (14,false)) [11,8],gQ 19 (.call 73 [Z15,Z18]) (some (14,false)) [9,12,8,8],gQ 20 (.un .not Z19) (some (14,false)) [13,8],oQ 21 (.pick Z14 (.const (.bool true)) Z20) [8,14],oQ 22 (.mv Z21) [15,13],gQ 23 (.fld 1 Z2) (some (22,false)) [16],gQ 24 (.load false 1 Z23) (some (22,false)) [17,16],gQ 25 (.len Z24) (some (22,false)) [18,16],gQ 26 (.bin .eql Z25 (.const (.int .i64 8))) (some (22,false)) [19,16],oQ 27 (.pick Z22 (.const (.bool true)) Z26) [16,20]]
def l34r2:List AOper :=
  [oQ 28 (.build [.slice none 0 0,.slice none 0 0] []) [],nQ (.store 2 Z4 Z28) [0,0],oQ 5 (.mv (.const (.bool false))) [1,0,1]]
def l34r3:List AOper :=
  [oQ 29 (.load true 2 Z2) [],oQ 30 (.load true 3 Z3) [],oQ 31 (.call 74 [Z29,.const (.int .i64 (-1)),Z30]) [0,1],nQ (.store 2 Z4 Z31) [2,2,0,1,2],oQ 5 (.mv (.const (.bool true))) [3,0,1,2,3]]
def l34:AFn :=
  (AFn.mk 32 2 (.seq (.reg l34r0) (.seq (.seq (.reg l34r1) (.cond (.tmp 27) (.seq (.reg l34r2) .ret) .skip)) (.seq (.reg l34r3) .ret))) [.cell 4 true 2,.tmp 5])
theorem l34_eq:lowFn Tryz.prog 34=some l34:=by kernel_rfl
def l35r0:List AOper :=
  [oQ 2 (.alloc [.slice none 0 0,.slice none 0 0]) [],oQ 3 (.mv (.const (.int .i64 0))) [],oQ 4 (.mv (.const (.int .i64 0))) [1],oQ 5 (.alloc [.int .i64 0,.int .i64 0,.int .i64 0,.bool false,.bool false]) []]
def l35r1:List AOper :=
  [oQ 9 (.mv Z0) [],oQ 10 (.call 41 [Z9]) [0],oQ 6 (.mv Z10) [1,1,0,1]]
def l35r2:List AOper :=
  [oQ 12 (.mv Z6) [],oQ 13 (.call 40 [Z12]) [0],oQ 11 (.mv Z13) [1],oQ 14 (.extract Z11 0) [2],oQ 15 (.extract Z11 1) [2],oQ 7 (.alloc [.slice none 0 0,.slice none 0 0]) [],nQ (.store 2 Z7 Z14) [5,3,1,0,1,2,3,5],oQ 8 (.mv Z15) [4,6,0,1,2,3,4,5,6]]
def l35r3a:List AOper :=
  [oQ 16 (.load true 2 Z7) [],oQ 17 (.mv Z8) [],oQ 18 (.mv Z6) [],oQ 19 (.bslice 1 [.int .i64 0] [(0,.const (.int .i64 0)),(1,.const (.int .i64 0)),(2,.const (.int .i64 1)),(3,.const (.int .i64 (-1)))] 4) [],oQ 20 (.call 57 [Z18,Z19]) [2,3],oQ 21 (.mv Z6) [],oQ 22 (.call 75 [Z21]) [5,4],nQ (.store 2 Z2 Z16) [0,6,0]]
def l35r3b:List AOper :=
  [oQ 3 (.mv Z17) [1,7,0,1,7],oQ 4 (.mv Z20) [4,8,0,1,2,3,4,7,8],nQ (.store 5 Z5 Z22) [6,9,0,1,2,3,4,5,6,7,8,9]]
def l35r3:List AOper:=l35r3a ++ l35r3b
def l35:AFn :=
  (AFn.mk 23 1 (.seq (.reg l35r0) (.seq (.reg l35r1) (.seq (.reg l35r2) (.seq (.draw l35r3) .ret)))) [.cell 2 true 2,.tmp 3,.tmp 4,.cell 5 true 5])
theorem l35_eq:lowFn Tryz.prog 35=some l35:=by kernel_rfl
def l36r0:List AOper :=
  [oQ 4 (.box Z0) [],oQ 7 (.box Z3) [],oQ 8 (.alloc [.slice none 0 0,.slice none 0 0]) [],oQ 9 (.mv (.const (.bool false))) []]
def l36r1:List AOper :=
  [oQ 12 (.load true 2 Z4) [],oQ 13 (.mv Z1) [],oQ 14 (.call 42 [Z12,Z13]) [0,1],oQ 15 (.un .not Z14) [2]]
def l36r2:List AOper :=
  [oQ 16 (.build [.slice none 0 0,.slice none 0 0] []) [],nQ (.store 2 Z8 Z16) [0,0],oQ 9 (.mv (.const (.bool false))) [1,0,1]]
def l36r3a:List AOper :=
  [oQ 18 (.fld 1 Z4) [],oQ 19 (.load false 1 Z18) [0],oQ 20 (.mv Z1) [],oQ 21 (.idxA 5 Z19 Z20) [1,2],oQ 22 (.fld 1 Z21) [3],oQ 23 (.load true 3 Z22) [4],oQ 24 (.mv Z2) [],oQ 25 (.load true 5 Z7) [],oQ 26 (.call 76 [Z23,Z24,Z25]) [5,6,7],oQ 17 (.mv Z26) [8],oQ 27 (.extract Z17 0) [9],oQ 28 (.extract Z17 1) [9],oQ 10 (.alloc [.int .i64 0,.slice none 0 0,.slice none 0 0]) [],nQ (.store 3 Z10 Z27) [12,10,8,0,1,2,3,4,5,6,7,8,9,10,12]]
def l36r3b:List AOper :=
  [oQ 11 (.mv Z28) [11,13,0,1,2,3,4,5,6,7,8,9,10,11,12,13]]
def l36r3:List AOper:=l36r3a ++ l36r3b
def l36r4:List AOper :=
  [oQ 29 (.mv Z11) [],oQ 30 (.un .not Z29) [0]]
def l36r5:List AOper :=
  [oQ 31 (.build [.slice none 0 0,.slice none 0 0] []) [],nQ (.store 2 Z8 Z31) [0,0],oQ 9 (.mv (.const (.bool false))) [1,0,1]]
def l36r6:List AOper :=
  [oQ 32 (.load true 2 Z4) [],oQ 33 (.mv Z1) [],oQ 34 (.load true 3 Z10) [],oQ 35 (.call 71 [Z32,Z33,Z34]) [0,1,2],oQ 36 (.extract Z35 0) [3],oQ 37 (.extract Z35 1) [3],nQ (.store 2 Z8 Z36) [4,3,0,1,2,3,4,5],oQ 9 (.mv Z37) [5,6,0,1,2,3,4,5,6]]
def l36:AFn :=
  (AFn.mk 38 4 (.seq (.reg l36r0) (.seq (.seq (.reg l36r1) (.cond (.tmp 15) (.seq (.reg l36r2) .ret) .skip)) (.seq (.draw l36r3) (.seq (.seq (.reg l36r4) (.cond (.tmp 30) (.seq (.reg l36r5) .ret) .skip)) (.seq (.reg l36r6) .ret))))) [.cell 8 true 2,.tmp 9])
theorem l36_eq:lowFn Tryz.prog 36=some l36:=by kernel_rfl
def l37r0:List AOper :=
  [oQ 4 (.box Z0) [],oQ 7 (.box Z3) [],oQ 8 (.alloc [.slice none 0 0,.slice none 0 0]) [],oQ 9 (.mv (.const (.bool false))) []]
def l37r1:List AOper :=
  [oQ 12 (.load true 2 Z4) [],oQ 13 (.call 47 [Z12]) [0],oQ 14 (.un .not Z13) [1],oQ 15 (.mv Z14) [2,1],gQ 16 (.load true 2 Z4) (some (15,false)) [3],gQ 17 (.mv Z1) (some (15,false)) [3],gQ 18 (.call 48 [Z16,Z17]) (some (15,false)) [4,5,3,3],gQ 19 (.un .not Z18) (some (15,false)) [6,3],oQ 20 (.pick Z15 (.const (.bool true)) Z19) [3,7],oQ 21 (.mv Z20) [8,6],gQ 22 (.fld 1 Z4) (some (21,false)) [9],gQ 23 (.load false 1 Z22) (some (21,false)) [10,9],gQ 24 (.len Z23) (some (21,false)) [11,9],gQ 25 (.bin .eql Z24 (.const (.int .i64 8))) (some (21,false)) [12,9],oQ 26 (.pick Z21 (.const (.bool true)) Z25) [9,13]]
def l37r2:List AOper :=
  [oQ 27 (.build [.slice none 0 0,.slice none 0 0] []) [],nQ (.store 2 Z8 Z27) [0,0],oQ 9 (.mv (.const (.bool false))) [1,0,1]]
def l37r3a:List AOper :=
  [oQ 29 (.fld 1 Z4) [],oQ 30 (.load false 1 Z29) [0],oQ 31 (.mv Z1) [],oQ 32 (.idxA 5 Z30 Z31) [1,2],oQ 33 (.fld 1 Z32) [3],oQ 34 (.load true 3 Z33) [4],oQ 35 (.mv Z2) [],oQ 36 (.load true 5 Z7) [],oQ 37 (.call 77 [Z34,Z35,Z36]) [5,6,7],oQ 28 (.mv Z37) [8],oQ 38 (.extract Z28 0) [9],oQ 39 (.extract Z28 1) [9],oQ 10 (.alloc [.int .i64 0,.slice none 0 0,.slice none 0 0]) [],nQ (.store 3 Z10 Z38) [12,10,8,0,1,2,3,4,5,6,7,8,9,10,12]]
def l37r3b:List AOper :=
  [oQ 11 (.mv Z39) [11,13,0,1,2,3,4,5,6,7,8,9,10,11,12,13]]
def l37r3:List AOper:=l37r3a ++ l37r3b
def l37r4:List AOper :=
  [oQ 40 (.mv Z11) [],oQ 41 (.un .not Z40) [0]]
def l37r5:List AOper :=
  [oQ 42 (.build [.slice none 0 0,.slice none 0 0] []) [],nQ (.store 2 Z8 Z42) [0,0],oQ 9 (.mv (.const (.bool false))) [1,0,1]]
def l37r6:List AOper :=
  [oQ 43 (.load true 2 Z4) [],oQ 44 (.mv Z1) [],oQ 45 (.load true 3 Z10) [],oQ 46 (.call 74 [Z43,Z44,Z45]) [0,1,2],nQ (.store 2 Z8 Z46) [3,3,0,1,2,3],oQ 9 (.mv (.const (.bool true))) [4,0,1,2,3,4]]
def l37:AFn :=
  (AFn.mk 47 4 (.seq (.reg l37r0) (.seq (.seq (.reg l37r1) (.cond (.tmp 26) (.seq (.reg l37r2) .ret) .skip)) (.seq (.draw l37r3) (.seq (.seq (.reg l37r4) (.cond (.tmp 41) (.seq (.reg l37r5) .ret) .skip)) (.seq (.reg l37r6) .ret))))) [.cell 8 true 2,.tmp 9])
theorem l37_eq:lowFn Tryz.prog 37=some l37:=by kernel_rfl
def l38r0:List AOper :=
  [oQ 2 (.box Z0) [],oQ 3 (.box Z1) [],oQ 4 (.mv (.const (.bool false))) []]
def l38r1a:List AOper :=
  [oQ 5 (.load true 3 Z2) [],oQ 6 (.call 62 [Z5]) [0],oQ 7 (.mv Z6) [1,1],gQ 8 (.load true 3 Z3) (some (7,true)) [2],gQ 9 (.call 62 [Z8]) (some (7,true)) [3,2,2],oQ 10 (.pick Z7 Z9 (.const (.bool false))) [2,4],oQ 11 (.mv Z10) [5,4],gQ 12 (.load true 3 Z2) (some (11,true)) [6],gQ 13 (.load true 3 Z3) (some (11,true)) [6],gQ 14 (.call 79 [Z12,Z13]) (some (11,true)) [7,8,6,6],gQ 15 (.load true 3 Z3) (some (11,true)) [6]]
def l38r1b:List AOper :=
  [gQ 16 (.call 63 [Z15]) (some (11,true)) [10,9,6],gQ 17 (.call 78 [Z14,Z16]) (some (11,true)) [9,11,11,6],oQ 18 (.pick Z11 Z17 (.const (.bool false))) [6,12],oQ 4 (.mv Z18) [13,12,0,1,2,3,4,5,6,7,8,9,10,11,12,13]]
def l38r1:List AOper:=l38r1a ++ l38r1b
def l38:AFn :=
  (AFn.mk 19 2 (.seq (.reg l38r0) (.seq (.draw l38r1) .ret)) [.tmp 4])
theorem l38_eq:lowFn Tryz.prog 38=some l38:=by kernel_rfl
def l39r0:List AOper :=
  [oQ 2 (.box Z0) [],oQ 4 (.mv (.const (.slice none 0 0))) []]
def l39r1:List AOper :=
  [oQ 5 (.load true 2 Z2) [],oQ 6 (.call 19 [Z5]) [0],oQ 7 (.un .not Z6) [1],oQ 8 (.mv Z7) [2,1],gQ 9 (.mv Z1) (some (8,false)) [3],gQ 10 (.bin .lss Z9 (.const (.int .i64 (-1)))) (some (8,false)) [4,3],oQ 11 (.pick Z8 (.const (.bool true)) Z10) [3,5],oQ 12 (.mv Z11) [6,3],gQ 13 (.mv Z1) (some (12,false)) [7],gQ 14 (.fld 1 Z2) (some (12,false)) [7],gQ 15 (.load false 1 Z14) (some (12,false)) [9,7],gQ 16 (.len Z15) (some (12,false)) [10,7],gQ 17 (.bin .geq Z13 Z16) (some (12,false)) [8,11,7],oQ 18 (.pick Z12 (.const (.bool true)) Z17) [7,12]]
def l39r2:List AOper :=
  [oQ 4 (.mv (.const (.slice none 0 0))) []]
def l39r3:List AOper :=
  [oQ 19 (.load true 2 Z2) [],oQ 20 (.mv Z1) [],oQ 21 (.call 44 [Z19,Z20]) [0,1],oQ 22 (.nilck Z21) [2],oQ 23 (.fld 0 Z22) [3],oQ 24 (.load false 1 Z23) [4],oQ 4 (.mv Z24) [5,2,0,1,2,3,4,5]]
def l39:AFn :=
  (AFn.mk 25 2 (.seq (.reg l39r0) (.seq (.seq (.reg l39r1) (.cond (.tmp 18) (.seq (.reg l39r2) .ret) .skip)) (.seq (.reg l39r3) .ret))) [.tmp 4])
theorem l39_eq:lowFn Tryz.prog 39=some l39:=by kernel_rfl
def l40r0:List AOper :=
  [oQ 2 (.alloc [.slice none 0 0,.slice none 0 0]) [],oQ 3 (.mv (.const (.int .i64 0))) []]
def l40r1:List AOper :=
  [oQ 7 (.mv Z0) [],oQ 8 (.call 68 [Z7]) [0],oQ 4 (.alloc [.slice none 0 0,.slice none 0 0]) [],nQ (.store 2 Z4 Z8) [2,1,1,0,1,2]]
def l40r2:List AOper :=
  [oQ 9 (.bslice 1 [.int .i64 0] [] 0) [],oQ 5 (.mv Z9) [0,0]]
def l40r3:List AOper :=
  [oQ 6 (.mv (.const (.int .i64 0))) []]
def l40r4:List AOper :=
  [oQ 10 (.mv Z6) [],oQ 11 (.fld 1 Z4) [],oQ 12 (.load false 1 Z11) [1],oQ 13 (.len Z12) [2],oQ 14 (.bin .lss Z10 Z13) [0,3]]
def l40r5:List AOper :=
  [oQ 17 (.fld 1 Z4) [],oQ 18 (.load false 1 Z17) [0],oQ 19 (.mv Z6) [],oQ 20 (.idxA 5 Z18 Z19) [1,2],oQ 21 (.fld 4 Z20) [3],oQ 22 (.load false 1 Z21) [4]]
def l40r6:List AOper :=
  [oQ 23 (.mv Z5) [],oQ 24 (.mv Z6) [],oQ 25 (.bslice 1 [.int .i64 0] [(0,Z24)] 1) [1],oQ 26 (.append 1 Z23 Z25) [0,2],oQ 5 (.mv Z26) [3,3,0,1,2,3]]
def l40r7:List AOper :=
  [oQ 15 (.mv Z6) [],oQ 16 (.bin .add Z15 (.const (.int .i64 1))) [0],oQ 6 (.mv Z16) [1,0,1]]
def l40r8:List AOper :=
  [oQ 27 (.mv Z5) [],oQ 28 (.len Z27) [0],oQ 29 (.bin .gtr Z28 (.const (.int .i64 0))) [1],oQ 30 (.mv Z29) [2],gQ 31 (.mv Z0) (some (30,true)) [3],gQ 32 (.call 65 [Z31,.const (.int .i64 4)]) (some (30,true)) [4,3,3],gQ 33 (.bin .gtr Z32 (.const (.int .i64 0))) (some (30,true)) [5,3],oQ 34 (.pick Z30 Z33 (.const (.bool false))) [3,6]]
def l40r9a:List AOper :=
  [oQ 35 (.load true 2 Z4) [],oQ 36 (.mv Z5) [],oQ 37 (.mv Z0) [],oQ 38 (.mv Z5) [],oQ 39 (.len Z38) [3],oQ 40 (.call 65 [Z37,Z39]) [2,4],oQ 41 (.idxA 1 Z36 Z40) [1,5],oQ 42 (.load false 1 Z41) [6],nQ (.store 2 Z2 Z35) [0,5,0]]
def l40r9b:List AOper :=
  [oQ 3 (.mv Z42) [7,8,0,1,2,3,4,5,6,7,8]]
def l40r9:List AOper:=l40r9a ++ l40r9b
def l40r10a:List AOper :=
  [oQ 43 (.load true 2 Z4) [],oQ 44 (.mv Z0) [],oQ 45 (.mv Z0) [],oQ 46 (.fld 1 Z4) [],oQ 47 (.load false 1 Z46) [3],oQ 48 (.len Z47) [4],oQ 49 (.bin .add Z48 (.const (.int .i64 1))) [5],oQ 50 (.call 65 [Z45,Z49]) [2,6],oQ 51 (.bslice 1 [.int .i64 0] [(0,Z50),(1,.const (.int .i64 (-1)))] 2) [7],oQ 52 (.call 57 [Z44,Z51]) [1,8,7]]
def l40r10b:List AOper :=
  [nQ (.store 2 Z2 Z43) [0,9,0],oQ 3 (.mv Z52) [9,10,0,1,2,3,4,5,6,7,8,9,10]]
def l40r10:List AOper:=l40r10a ++ l40r10b
def l40:AFn :=
  (AFn.mk 53 1 (.seq (.reg l40r0) (.seq (.reg l40r1) (.seq (.reg l40r2) (.seq (.seq (.reg l40r3) (.block 0 (.loop (.seq (.seq (.reg l40r4) (.cond (.tmp 14) .skip (.exit 0))) (.seq (.block 1 (.seq (.reg l40r5) (.cond (.tmp 22) (.reg l40r6) .skip))) (.reg l40r7)))))) (.seq (.seq (.reg l40r8) (.cond (.tmp 34) (.seq (.draw l40r9) .ret) .skip)) (.seq (.draw l40r10) .ret)))))) [.cell 2 true 2,.tmp 3])
theorem l40_eq:lowFn Tryz.prog 40=some l40:=by kernel_rfl
def l41r0:List AOper :=
  [oQ 2 (.mv (.const (.pointer none))) []]
def l41r1:List AOper :=
  [oQ 3 (.mv Z0) [],oQ 4 (.len Z3) [0],oQ 5 (.bin .gtr Z4 (.const (.int .i64 2000))) [1]]
def l41r2:List AOper :=
  [oQ 6 (.mv Z0) [],oQ 7 (.slice 1 Z6 none (some (.const (.int .i64 2000)))) [0],oQ 0 (.mv Z7) [1,0,1]]
def l41r3:List AOper :=
  [oQ 8 (.mv Z0) [],oQ 9 (.build [.slice none 0 0,.int .i64 0] [(0,1,Z8)]) [0],oQ 10 (.box Z9) [1],oQ 2 (.mv Z10) [2,0,1,2]]
def l41:AFn :=
  (AFn.mk 11 1 (.seq (.reg l41r0) (.seq (.seq (.reg l41r1) (.cond (.tmp 5) (.reg l41r2) .skip)) (.seq (.reg l41r3) .ret))) [.tmp 2])
theorem l41_eq:lowFn Tryz.prog 41=some l41:=by kernel_rfl
def l42r0:List AOper :=
  [oQ 2 (.box Z0) [],oQ 4 (.mv (.const (.bool false))) []]
def l42r1:List AOper :=
  [oQ 5 (.load true 2 Z2) [],oQ 6 (.call 19 [Z5]) [0],oQ 7 (.mv Z6) [1,1],gQ 8 (.mv Z1) (some (7,true)) [2],gQ 9 (.fld 1 Z2) (some (7,true)) [2],gQ 10 (.load false 1 Z9) (some (7,true)) [4,2],gQ 11 (.len Z10) (some (7,true)) [5,2],gQ 12 (.bin .sub Z11 (.const (.int .i64 1))) (some (7,true)) [6,2],gQ 13 (.call 80 [Z8,Z12]) (some (7,true)) [3,7,2,2],oQ 14 (.pick Z7 Z13 (.const (.bool false))) [2,8],oQ 15 (.mv Z14) [9,8],gQ 16 (.fld 1 Z2) (some (15,true)) [10],gQ 17 (.load false 1 Z16) (some (15,true)) [11,10],gQ 18 (.mv Z1) (some (15,true)) [10],gQ 19 (.idxA 5 Z17 Z18) (some (15,true)) [12,13,10],gQ 20 (.fld 4 Z19) (some (15,true)) [14,10],gQ 21 (.load false 1 Z20) (some (15,true)) [15,10],oQ 22 (.pick Z15 Z21 (.const (.bool false))) [10,16],oQ 4 (.mv Z22) [17,10,0,1,2,3,4,5,6,7,8,9,10,11,12,13,14,15,16,17]]
def l42:AFn :=
  (AFn.mk 23 2 (.seq (.reg l42r0) (.seq (.reg l42r1) .ret)) [.tmp 4])
theorem l42_eq:lowFn Tryz.prog 42=some l42:=by kernel_rfl
def l44r0:List AOper :=
  [oQ 2 (.box Z0) [],oQ 4 (.mv (.const (.pointer none))) []]
def l44r1:List AOper :=
  [oQ 10 (.build [.slice none 0 0] []) [],oQ 11 (.box Z10) [0],oQ 5 (.mv Z11) [1,0,1]]
def l44r2:List AOper :=
  [oQ 6 (.mv (.const (.slice none 0 0))) []]
def l44r3:List AOper :=
  [oQ 12 (.fld 1 Z2) [],oQ 13 (.load false 1 Z12) [0],oQ 14 (.len Z13) [1],oQ 15 (.mv (.const (.int .i64 0))) []]
def l44r4:List AOper :=
  [oQ 16 (.bin .lss Z15 Z14) []]
def l44r5:List AOper :=
  [oQ 17 (.mv Z15) [],oQ 18 (.idxA 5 Z13 Z15) [],oQ 19 (.load true 5 Z18) [1],oQ 8 (.alloc [.int .i64 0,.int .i64 0,.slice none 0 0,.slice none 0 0,.bool false]) [],oQ 7 (.mv Z17) [0,0,1,2,3],nQ (.store 5 Z8 Z19) [3,2,4,0,1,2,3,4]]
def l44r6:List AOper :=
  [oQ 20 (.mv Z5) [],oQ 9 (.mv Z20) [0,0]]
def l44r7:List AOper :=
  [oQ 21 (.fld 0 Z8) [],oQ 22 (.load false 1 Z21) [0],oQ 23 (.bin .neq Z22 (.const (.int .i64 (-1)))) [1]]
def l44r8:List AOper :=
  [oQ 24 (.mv Z6) [],oQ 25 (.fld 0 Z8) [],oQ 26 (.load false 1 Z25) [1],oQ 27 (.idxA 1 Z24 Z26) [0,2],oQ 28 (.load false 1 Z27) [3],oQ 9 (.mv Z28) [4,0,1,2,3,4]]
def l44r9:List AOper :=
  [oQ 29 (.mv Z6) [],oQ 30 (.mv Z9) [],oQ 31 (.mv Z7) [],oQ 32 (.fld 4 Z8) [],oQ 33 (.load false 1 Z32) [3],oQ 34 (.call 83 [Z30,Z31,Z33]) [1,2,4],oQ 35 (.bslice 1 [.pointer none] [(0,Z34)] 1) [5],oQ 36 (.append 1 Z29 Z35) [0,6,5],oQ 6 (.mv Z36) [7,7,0,1,2,3,4,5,6,7]]
def l44r10:List AOper :=
  [oQ 37 (.bin .add Z15 (.const (.int .i64 1))) [],oQ 15 (.mv Z37) [0]]
def l44r11:List AOper :=
  [oQ 38 (.mv Z1) [],oQ 39 (.bin .eql Z38 (.const (.int .i64 (-1)))) [0]]
def l44r12:List AOper :=
  [oQ 40 (.mv Z5) [],oQ 4 (.mv Z40) [0,0]]
def l44r13:List AOper :=
  [oQ 41 (.mv Z6) [],oQ 42 (.mv Z1) [],oQ 43 (.idxA 1 Z41 Z42) [0,1],oQ 44 (.load false 1 Z43) [2],oQ 4 (.mv Z44) [3,0,1,2,3]]
def l44:AFn :=
  (AFn.mk 45 2 (.seq (.reg l44r0) (.seq (.reg l44r1) (.seq (.reg l44r2) (.seq (.seq (.reg l44r3) (.block 0 (.loop (.seq (.reg l44r4) (.seq (.cond (.tmp 16) .skip (.exit 0)) (.seq (.block 1 (.seq (.reg l44r5) (.seq (.reg l44r6) (.seq (.seq (.reg l44r7) (.cond (.tmp 23) (.reg l44r8) .skip)) (.reg l44r9))))) (.reg l44r10))))))) (.seq (.seq (.reg l44r11) (.cond (.tmp 39) (.seq (.reg l44r12) .ret) .skip)) (.seq (.reg l44r13) .ret)))))) [.tmp 4])
theorem l44_eq:lowFn Tryz.prog 44=some l44:=by kernel_rfl
def l45r0:List AOper :=
  [oQ 2 (.mv (.const .nilIface)) []]
def l45r1:List AOper :=
  [oQ 3 (.mv Z0) [],oQ 4 (.nilck Z3) [0],oQ 5 (.fld 0 Z4) [1],oQ 6 (.load false 1 Z5) [2],oQ 7 (.len Z6) [3],oQ 8 (.bin .gtr Z7 (.const (.int .i64 0))) [4]]
def l45r2:List AOper :=
  [oQ 9 (.load false 1 (.global 0)) [],oQ 2 (.mv Z9) [0,0]]
def l45r3:List AOper :=
  [oQ 2 (.mv (.const .nilIface)) []]
def l45:AFn :=
  (AFn.mk 10 1 (.seq (.reg l45r0) (.seq (.seq (.reg l45r1) (.cond (.tmp 8) (.seq (.reg l45r2) .ret) .skip)) (.seq (.reg l45r3) .ret))) [.tmp 2])
theorem l45_eq:lowFn Tryz.prog 45=some l45:=by kernel_rfl
def l46r0:List AOper :=
  [oQ 1 (.box Z0) [],oQ 2 (.alloc [.slice none 0 0,.slice none 0 0]) []]
def l46r1:List AOper :=
  [oQ 6 (.fld 0 Z1) [],oQ 7 (.load false 1 Z6) [0],oQ 8 (.call 84 [Z7]) [1],oQ 9 (.build [.slice none 0 0,.slice none 0 0] [(0,1,Z8)]) [2],oQ 3 (.alloc [.slice none 0 0,.slice none 0 0]) [],nQ (.store 2 Z3 Z9) [4,3,2,0,1,2,3,4]]
def l46r2:List AOper :=
  [oQ 10 (.fld 1 Z1) [],oQ 11 (.load false 1 Z10) [0],oQ 12 (.len Z11) [1],oQ 13 (.mv (.const (.int .i64 0))) []]
def l46r3:List AOper :=
  [oQ 14 (.bin .lss Z13 Z12) []]
def l46r4:List AOper :=
  [oQ 15 (.idxA 5 Z11 Z13) [],oQ 16 (.load true 5 Z15) [0],oQ 5 (.alloc [.int .i64 0,.int .i64 0,.slice none 0 0,.slice none 0 0,.bool false]) [],nQ (.store 5 Z5 Z16) [2,1,0,1,2]]
def l46r5a:List AOper :=
  [oQ 17 (.fld 1 Z3) [],oQ 18 (.load false 1 Z17) [0],oQ 19 (.fld 0 Z5) [],oQ 20 (.load false 1 Z19) [2],oQ 21 (.fld 1 Z5) [],oQ 22 (.load true 3 Z21) [4],oQ 23 (.call 85 [Z22]) [5],oQ 24 (.fld 4 Z5) [],oQ 25 (.load false 1 Z24) [7],oQ 26 (.build [.int .i64 0,.int .i64 0,.slice none 0 0,.slice none 0 0,.bool false] [(0,1,Z20),(1,3,Z23),(4,1,Z25)]) [3,6,8],oQ 27 (.bslice 5 [.int .i64 0,.int .i64 0,.slice none 0 0,.slice none 0 0,.bool false] [(0,Z26)] 1) [9]]
def l46r5b:List AOper :=
  [oQ 28 (.append 5 Z18 Z27) [1,10,6],oQ 29 (.fld 1 Z3) [0,1,2,3,4,5,6,7,8,9,10,11],nQ (.store 1 Z29 Z28) [12,11,11,0,1,2,3,4,5,6,7,8,9,10,11]]
def l46r5:List AOper:=l46r5a ++ l46r5b
def l46r6:List AOper :=
  [oQ 30 (.bin .add Z13 (.const (.int .i64 1))) [],oQ 13 (.mv Z30) [0]]
def l46r7:List AOper :=
  [oQ 31 (.load true 2 Z3) [],nQ (.store 2 Z2 Z31) [0,0]]
def l46:AFn :=
  (AFn.mk 32 1 (.seq (.reg l46r0) (.seq (.reg l46r1) (.seq (.seq (.reg l46r2) (.block 0 (.loop (.seq (.reg l46r3) (.seq (.cond (.tmp 14) .skip (.exit 0)) (.seq (.block 1 (.seq (.reg l46r4) (.draw l46r5))) (.reg l46r6))))))) (.seq (.reg l46r7) .ret)))) [.cell 2 true 2])
theorem l46_eq:lowFn Tryz.prog 46=some l46:=by kernel_rfl
def l47r0:List AOper :=
  [oQ 1 (.box Z0) [],oQ 2 (.mv (.const (.bool false))) []]
def l47r1:List AOper :=
  [oQ 3 (.mv (.const (.int .i64 0))) []]
def l47r2:List AOper :=
  [oQ 4 (.mv Z3) [],oQ 5 (.fld 1 Z1) [],oQ 6 (.load false 1 Z5) [1],oQ 7 (.len Z6) [2],oQ 8 (.bin .lss Z4 Z7) [0,3]]
def l47r3:List AOper :=
  [oQ 11 (.load true 2 Z1) [],oQ 12 (.mv Z3) [],oQ 13 (.call 86 [Z11,Z12]) [0,1],oQ 14 (.un .not Z13) [2]]
def l47r4:List AOper :=
  [oQ 2 (.mv (.const (.bool false))) []]
def l47r5:List AOper :=
  [oQ 9 (.mv Z3) [],oQ 10 (.bin .add Z9 (.const (.int .i64 1))) [0],oQ 3 (.mv Z10) [1,0,1]]
def l47r6:List AOper :=
  [oQ 15 (.fld 0 Z1) [],oQ 16 (.load false 1 Z15) [0],oQ 17 (.call 87 [Z16]) [1],oQ 18 (.mv Z17) [2,2],gQ 19 (.fld 1 Z1) (some (18,true)) [3],gQ 20 (.load false 1 Z19) (some (18,true)) [4,3],gQ 21 (.len Z20) (some (18,true)) [5,3],gQ 22 (.bin .leq Z21 (.const (.int .i64 8))) (some (18,true)) [6,3],oQ 23 (.pick Z18 Z22 (.const (.bool false))) [3,7],oQ 2 (.mv Z23) [8,3,0,1,2,3,4,5,6,7,8]]
def l47:AFn :=
  (AFn.mk 24 1 (.seq (.reg l47r0) (.seq (.seq (.reg l47r1) (.block 0 (.loop (.seq (.seq (.reg l47r2) (.cond (.tmp 8) .skip (.exit 0))) (.seq (.block 1 (.seq (.reg l47r3) (.cond (.tmp 14) (.seq (.reg l47r4) .ret) .skip))) (.reg l47r5)))))) (.seq (.reg l47r6) .ret))) [.tmp 2])
theorem l47_eq:lowFn Tryz.prog 47=some l47:=by kernel_rfl
def l48r0:List AOper :=
  [oQ 2 (.box Z0) [],oQ 4 (.mv (.const (.bool false))) []]
def l48r1:List AOper :=
  [oQ 5 (.mv Z1) [],oQ 6 (.fld 1 Z2) [],oQ 7 (.load false 1 Z6) [1],oQ 8 (.len Z7) [2],oQ 9 (.bin .sub Z8 (.const (.int .i64 1))) [3],oQ 10 (.call 60 [Z5,.const (.int .i64 0),Z9]) [0,4],oQ 11 (.mv Z10) [5,5],gQ 12 (.fld 1 Z2) (some (11,true)) [6],gQ 13 (.load false 1 Z12) (some (11,true)) [7,6],gQ 14 (.mv Z1) (some (11,true)) [6],gQ 15 (.idxA 5 Z13 Z14) (some (11,true)) [8,9,6],gQ 16 (.fld 4 Z15) (some (11,true)) [10,6],gQ 17 (.load false 1 Z16) (some (11,true)) [11,6],oQ 18 (.pick Z11 Z17 (.const (.bool false))) [6,12],oQ 4 (.mv Z18) [13,6,0,1,2,3,4,5,6,7,8,9,10,11,12,13]]
def l48:AFn :=
  (AFn.mk 19 2 (.seq (.reg l48r0) (.seq (.reg l48r1) .ret)) [.tmp 4])
theorem l48_eq:lowFn Tryz.prog 48=some l48:=by kernel_rfl
def l49r0:List AOper :=
  [oQ 2 (.box Z0) [],oQ 4 (.mv (.const (.slice none 0 0))) []]
def l49r1:List AOper :=
  [oQ 7 (.bslice 1 [.int .i64 0] [] 0) [],oQ 5 (.mv Z7) [0,0]]
def l49r2:List AOper :=
  [oQ 6 (.mv (.const (.int .i64 0))) []]
def l49r3:List AOper :=
  [oQ 8 (.mv Z6) [],oQ 9 (.fld 1 Z2) [],oQ 10 (.load false 1 Z9) [1],oQ 11 (.len Z10) [2],oQ 12 (.bin .lss Z8 Z11) [0,3]]
def l49r4:List AOper :=
  [oQ 15 (.fld 1 Z2) [],oQ 16 (.load false 1 Z15) [0],oQ 17 (.mv Z6) [],oQ 18 (.idxA 5 Z16 Z17) [1,2],oQ 19 (.fld 4 Z18) [3],oQ 20 (.load false 1 Z19) [4],oQ 21 (.mv Z20) [5],gQ 22 (.fld 1 Z2) (some (21,true)) [6],gQ 23 (.load false 1 Z22) (some (21,true)) [7,6],gQ 24 (.mv Z6) (some (21,true)) [6],gQ 25 (.idxA 5 Z23 Z24) (some (21,true)) [8,9,6],gQ 26 (.fld 0 Z25) (some (21,true)) [10,6],gQ 27 (.load false 1 Z26) (some (21,true)) [11,6],gQ 28 (.mv Z1) (some (21,true)) [6],gQ 29 (.bin .eql Z27 Z28) (some (21,true)) [12,13,6],oQ 30 (.pick Z21 Z29 (.const (.bool false))) [6,14]]
def l49r5:List AOper :=
  [oQ 31 (.mv Z5) [],oQ 32 (.mv Z6) [],oQ 33 (.bslice 1 [.int .i64 0] [(0,Z32)] 1) [1],oQ 34 (.append 1 Z31 Z33) [0,2],oQ 5 (.mv Z34) [3,3,0,1,2,3]]
def l49r6:List AOper :=
  [oQ 13 (.mv Z6) [],oQ 14 (.bin .add Z13 (.const (.int .i64 1))) [0],oQ 6 (.mv Z14) [1,0,1]]
def l49r7:List AOper :=
  [oQ 35 (.mv Z5) [],oQ 4 (.mv Z35) [0,0]]
def l49:AFn :=
  (AFn.mk 36 2 (.seq (.reg l49r0) (.seq (.reg l49r1) (.seq (.seq (.reg l49r2) (.block 0 (.loop (.seq (.seq (.reg l49r3) (.cond (.tmp 12) .skip (.exit 0))) (.seq (.block 1 (.seq (.reg l49r4) (.cond (.tmp 30) (.reg l49r5) .skip))) (.reg l49r6)))))) (.seq (.reg l49r7) .ret)))) [.tmp 4])
theorem l49_eq:lowFn Tryz.prog 49=some l49:=by kernel_rfl
def l50r0:List AOper :=
  [oQ 1 (.box Z0) [],oQ 2 (.alloc [.slice none 0 0,.slice none 0 0]) []]
def l50r1:List AOper :=
  [oQ 6 (.fld 0 Z1) [],oQ 7 (.load false 1 Z6) [0],oQ 8 (.call 88 [Z7]) [1],oQ 9 (.build [.slice none 0 0,.slice none 0 0] [(0,1,Z8)]) [2],oQ 3 (.alloc [.slice none 0 0,.slice none 0 0]) [],nQ (.store 2 Z3 Z9) [4,3,2,0,1,2,3,4]]
def l50r2:List AOper :=
  [oQ 4 (.mv (.const (.int .i64 0))) []]
def l50r3:List AOper :=
  [oQ 10 (.mv Z4) [],oQ 11 (.fld 1 Z1) [],oQ 12 (.load false 1 Z11) [1],oQ 13 (.len Z12) [2],oQ 14 (.bin .lss Z10 Z13) [0,3]]
def l50r4:List AOper :=
  [oQ 17 (.fld 1 Z1) [],oQ 18 (.load false 1 Z17) [0],oQ 19 (.mv Z4) [],oQ 20 (.idxA 5 Z18 Z19) [1,2],oQ 21 (.load true 5 Z20) [3],oQ 5 (.alloc [.int .i64 0,.int .i64 0,.slice none 0 0,.slice none 0 0,.bool false]) [],nQ (.store 5 Z5 Z21) [5,4,0,1,2,3,4,5]]
def l50r5:List AOper :=
  [oQ 22 (.fld 1 Z5) [],oQ 23 (.load true 3 Z22) [0],oQ 24 (.call 89 [Z23]) [1],oQ 25 (.fld 1 Z5) [0,1,2],nQ (.store 3 Z25 Z24) [3,2,2,0,1,2]]
def l50r6:List AOper :=
  [oQ 26 (.fld 1 Z3) [],oQ 27 (.load false 1 Z26) [0],oQ 28 (.load true 5 Z5) [],oQ 29 (.bslice 5 [.int .i64 0,.int .i64 0,.slice none 0 0,.slice none 0 0,.bool false] [(0,Z28)] 1) [2],oQ 30 (.append 5 Z27 Z29) [1,3],oQ 31 (.fld 1 Z3) [0,1,2,3,4],nQ (.store 1 Z31 Z30) [5,4,4,0,1,2,3,4]]
def l50r7:List AOper :=
  [oQ 15 (.mv Z4) [],oQ 16 (.bin .add Z15 (.const (.int .i64 1))) [0],oQ 4 (.mv Z16) [1,0,1]]
def l50r8:List AOper :=
  [oQ 32 (.load true 2 Z3) [],nQ (.store 2 Z2 Z32) [0,0]]
def l50:AFn :=
  (AFn.mk 33 1 (.seq (.reg l50r0) (.seq (.reg l50r1) (.seq (.seq (.reg l50r2) (.block 0 (.loop (.seq (.seq (.reg l50r3) (.cond (.tmp 14) .skip (.exit 0))) (.seq (.block 1 (.seq (.reg l50r4) (.seq (.reg l50r5) (.reg l50r6)))) (.reg l50r7)))))) (.seq (.reg l50r8) .ret)))) [.cell 2 true 2])
theorem l50_eq:lowFn Tryz.prog 50=some l50:=by kernel_rfl
def l51r0:List AOper :=
  [oQ 2 (.box Z0) [],oQ 3 (.box Z1) [],oQ 4 (.mv (.const (.bool false))) []]
def l51r1:List AOper :=
  [oQ 5 (.fld 0 Z2) [],oQ 6 (.load false 1 Z5) [0],oQ 7 (.fld 0 Z3) [],oQ 8 (.load false 1 Z7) [2],oQ 9 (.bin .eql Z6 Z8) [1,3],oQ 10 (.mv Z9) [4],gQ 11 (.fld 1 Z2) (some (10,true)) [5],gQ 12 (.load false 1 Z11) (some (10,true)) [6,5],gQ 13 (.fld 1 Z3) (some (10,true)) [5],gQ 14 (.load false 1 Z13) (some (10,true)) [8,5],gQ 15 (.call 15 [Z12,Z14]) (some (10,true)) [7,9,5,5],oQ 16 (.pick Z10 Z15 (.const (.bool false))) [5,10],oQ 17 (.mv Z16) [11,10],gQ 18 (.fld 2 Z2) (some (17,true)) [12],gQ 19 (.load false 1 Z18) (some (17,true)) [13,12],gQ 20 (.fld 2 Z3) (some (17,true)) [12],gQ 21 (.load false 1 Z20) (some (17,true)) [15,12],gQ 22 (.call 15 [Z19,Z21]) (some (17,true)) [14,16,12,12],oQ 23 (.pick Z17 Z22 (.const (.bool false))) [12,17],oQ 4 (.mv Z23) [18,17,0,1,2,3,4,5,6,7,8,9,10,11,12,13,14,15,16,17,18]]
def l51:AFn :=
  (AFn.mk 24 2 (.seq (.reg l51r0) (.seq (.reg l51r1) .ret)) [.tmp 4])
theorem l51_eq:lowFn Tryz.prog 51=some l51:=by kernel_rfl
def l52r0:List AOper :=
  [oQ 3 (.box Z1) [],oQ 4 (.mv (.const (.slice none 0 0))) []]
def l52r1:List AOper :=
  [oQ 8 (.bslice 1 [.int .i64 0] [] 0) [],oQ 5 (.mv Z8) [0,0]]
def l52r2:List AOper :=
  [oQ 9 (.load true 3 Z3) [],oQ 10 (.call 90 [Z9]) [0],oQ 6 (.mv Z10) [1,1,0,1]]
def l52r3:List AOper :=
  [oQ 7 (.mv (.const (.int .i64 0))) []]
def l52r4:List AOper :=
  [oQ 11 (.mv Z7) [],oQ 12 (.mv Z6) [],oQ 13 (.len Z12) [1],oQ 14 (.bin .lss Z11 Z13) [0,2]]
def l52r5:List AOper :=
  [oQ 17 (.mv Z5) [],oQ 18 (.mv Z0) [],oQ 19 (.mv Z6) [],oQ 20 (.mv Z7) [],oQ 21 (.idxA 1 Z19 Z20) [2,3],oQ 22 (.load false 1 Z21) [4],oQ 23 (.idxA 1 Z18 Z22) [1,5],oQ 24 (.load false 1 Z23) [6],oQ 25 (.bslice 1 [.int .i64 0] [(0,Z24)] 1) [7],oQ 26 (.append 1 Z17 Z25) [0,8],oQ 5 (.mv Z26) [9,9,0,1,2,3,4,5,6,7,8,9]]
def l52r6:List AOper :=
  [oQ 15 (.mv Z7) [],oQ 16 (.bin .add Z15 (.const (.int .i64 1))) [0],oQ 7 (.mv Z16) [1,0,1]]
def l52r7:List AOper :=
  [oQ 27 (.mv Z5) [],oQ 4 (.mv Z27) [0,0]]
def l52:AFn :=
  (AFn.mk 28 2 (.seq (.reg l52r0) (.seq (.reg l52r1) (.seq (.reg l52r2) (.seq (.seq (.reg l52r3) (.block 0 (.loop (.seq (.seq (.reg l52r4) (.cond (.tmp 14) .skip (.exit 0))) (.seq (.block 1 (.reg l52r5)) (.reg l52r6)))))) (.seq (.reg l52r7) .ret))))) [.tmp 4])
theorem l52_eq:lowFn Tryz.prog 52=some l52:=by kernel_rfl
def l53r0:List AOper :=
  [oQ 2 (.mv (.const (.bool false))) []]
def l53r1:List AOper :=
  [oQ 3 (.mv Z0) [],oQ 4 (.len Z3) [0],oQ 5 (.call 91 [Z4]) [1],oQ 6 (.mv Z5) [2,2],gQ 7 (.mv Z0) (some (6,true)) [3],gQ 8 (.call 92 [Z7]) (some (6,true)) [4,3,3],oQ 9 (.pick Z6 Z8 (.const (.bool false))) [3,5],oQ 2 (.mv Z9) [6,5,0,1,2,3,4,5,6]]
def l53:AFn :=
  (AFn.mk 10 1 (.seq (.reg l53r0) (.seq (.reg l53r1) .ret)) [.tmp 2])
theorem l53_eq:lowFn Tryz.prog 53=some l53:=by kernel_rfl
def l54r0:List AOper :=
  [oQ 3 (.box Z0) [],oQ 6 (.mv (.const (.bool false))) []]
def l54r1:List AOper :=
  [oQ 7 (.fld 1 Z3) [],oQ 8 (.load true 3 Z7) [0],oQ 9 (.call 62 [Z8]) [1],oQ 10 (.un .not Z9) [2],oQ 11 (.mv Z10) [3,2],gQ 12 (.fld 0 Z3) (some (11,false)) [4],gQ 13 (.load false 1 Z12) (some (11,false)) [5,4],gQ 14 (.bin .lss Z13 (.const (.int .i64 (-1)))) (some (11,false)) [6,4],oQ 15 (.pick Z11 (.const (.bool true)) Z14) [4,7],oQ 16 (.mv Z15) [8,4],gQ 17 (.fld 0 Z3) (some (16,false)) [9],gQ 18 (.load false 1 Z17) (some (16,false)) [10,9],gQ 19 (.mv Z1) (some (16,false)) [9],gQ 20 (.bin .geq Z18 Z19) (some (16,false)) [11,12,9],oQ 21 (.pick Z16 (.const (.bool true)) Z20) [9,13]]
def l54r2:List AOper :=
  [oQ 6 (.mv (.const (.bool false))) []]
def l54r3:List AOper :=
  [oQ 22 (.fld 4 Z3) [],oQ 23 (.load false 1 Z22) [0],oQ 24 (.un .not Z23) [1],oQ 25 (.mv Z24) [2],gQ 26 (.fld 1 Z3) (some (25,false)) [3],gQ 27 (.load true 3 Z26) (some (25,false)) [4,3],gQ 28 (.mv Z2) (some (25,false)) [3],gQ 29 (.call 70 [Z27,Z28]) (some (25,false)) [5,6,3,3],oQ 30 (.pick Z25 (.const (.bool true)) Z29) [3,7],oQ 6 (.mv Z30) [8,7,0,1,2,3,4,5,6,7,8]]
def l54:AFn :=
  (AFn.mk 31 3 (.seq (.reg l54r0) (.seq (.seq (.reg l54r1) (.cond (.tmp 21) (.seq (.reg l54r2) .ret) .skip)) (.seq (.reg l54r3) .ret))) [.tmp 6])
theorem l54_eq:lowFn Tryz.prog 54=some l54:=by kernel_rfl
def l57r0:List AOper :=
  [oQ 4 (.mv (.const (.int .i64 0))) []]
def l57r1:List AOper :=
  [oQ 5 (.mv Z1) [],oQ 6 (.mv Z0) [],oQ 7 (.mv Z1) [],oQ 8 (.len Z7) [2],oQ 9 (.call 65 [Z6,Z8]) [1,3],oQ 10 (.idxA 1 Z5 Z9) [0,4],oQ 11 (.load false 1 Z10) [5],oQ 4 (.mv Z11) [6,4,0,1,2,3,4,5,6]]
def l57:AFn :=
  (AFn.mk 12 2 (.seq (.reg l57r0) (.seq (.reg l57r1) .ret)) [.tmp 4])
theorem l57_eq:lowFn Tryz.prog 57=some l57:=by kernel_rfl
def l60r0:List AOper :=
  [oQ 6 (.mv (.const (.bool false))) []]
def l60r1:List AOper :=
  [oQ 7 (.mv Z1) [],oQ 8 (.mv Z0) [],oQ 9 (.bin .leq Z7 Z8) [0,1],oQ 10 (.mv Z9) [2],gQ 11 (.mv Z0) (some (10,true)) [3],gQ 12 (.mv Z2) (some (10,true)) [3],gQ 13 (.bin .leq Z11 Z12) (some (10,true)) [4,5,3],oQ 14 (.pick Z10 Z13 (.const (.bool false))) [3,6],oQ 6 (.mv Z14) [7,3,0,1,2,3,4,5,6,7]]
def l60:AFn :=
  (AFn.mk 15 3 (.seq (.reg l60r0) (.seq (.reg l60r1) .ret)) [.tmp 6])
theorem l60_eq:lowFn Tryz.prog 60=some l60:=by kernel_rfl
def l61r0:List AOper :=
  [oQ 4 (.box Z1) [],oQ 6 (.mv (.const (.slice none 0 0))) [],oQ 7 (.mv (.const (.bool false))) [1]]
def l61r1:List AOper :=
  [oQ 11 (.mv Z0) [],oQ 12 (.load true 3 Z4) [],oQ 13 (.call 98 [Z11,Z12]) [0,1],oQ 14 (.un .not Z13) [2],oQ 15 (.mv Z14) [3,2],gQ 16 (.mv Z2) (some (15,false)) [4],gQ 17 (.call 60 [Z16,.const (.int .i64 0),.const (.int .i64 255)]) (some (15,false)) [5,4,4],gQ 18 (.un .not Z17) (some (15,false)) [6,4],oQ 19 (.pick Z15 (.const (.bool true)) Z18) [4,7]]
def l61r2:List AOper :=
  [oQ 6 (.mv (.const (.slice none 0 0))) [],oQ 7 (.mv (.const (.bool false))) [0,0]]
def l61r3:List AOper :=
  [oQ 20 (.mv Z0) [],oQ 21 (.call 88 [Z20]) [0],oQ 8 (.mv Z21) [1,1,0,1]]
def l61r4:List AOper :=
  [oQ 22 (.load true 3 Z4) [],oQ 23 (.call 90 [Z22]) [0],oQ 9 (.mv Z23) [1,1,0,1]]
def l61r5:List AOper :=
  [oQ 10 (.mv (.const (.int .i64 0))) []]
def l61r6:List AOper :=
  [oQ 24 (.mv Z10) [],oQ 25 (.mv Z9) [],oQ 26 (.len Z25) [1],oQ 27 (.bin .lss Z24 Z26) [0,2]]
def l61r7:List AOper :=
  [oQ 30 (.mv Z8) [],oQ 31 (.mv Z9) [],oQ 32 (.mv Z10) [],oQ 33 (.idxA 1 Z31 Z32) [1,2],oQ 34 (.load false 1 Z33) [3],oQ 35 (.mv Z2) [],oQ 36 (.idxA 1 Z30 Z34) [0,4,0,1,2,3,4,5],nQ (.store 1 Z36 Z35) [6,5,0,1,2,3,4,5]]
def l61r8:List AOper :=
  [oQ 28 (.mv Z10) [],oQ 29 (.bin .add Z28 (.const (.int .i64 1))) [0],oQ 10 (.mv Z29) [1,0,1]]
def l61r9:List AOper :=
  [oQ 37 (.mv Z8) [],oQ 6 (.mv Z37) [0,0],oQ 7 (.mv (.const (.bool true))) [1,0,1]]
def l61:AFn :=
  (AFn.mk 38 3 (.seq (.reg l61r0) (.seq (.seq (.reg l61r1) (.cond (.tmp 19) (.seq (.reg l61r2) .ret) .skip)) (.seq (.reg l61r3) (.seq (.reg l61r4) (.seq (.seq (.reg l61r5) (.block 0 (.loop (.seq (.seq (.reg l61r6) (.cond (.tmp 27) .skip (.exit 0))) (.seq (.block 1 (.reg l61r7)) (.reg l61r8)))))) (.seq (.reg l61r9) .ret)))))) [.tmp 6,.tmp 7])
theorem l61_eq:lowFn Tryz.prog 61=some l61:=by kernel_rfl
def l62r0:List AOper :=
  [oQ 1 (.box Z0) [],oQ 2 (.mv (.const (.bool false))) []]
def l62r1:List AOper :=
  [oQ 5 (.fld 1 Z1) [],oQ 6 (.load false 1 Z5) [0],oQ 7 (.call 99 [Z6]) [1],oQ 8 (.un .not Z7) [2],oQ 9 (.mv Z8) [3,2],gQ 10 (.fld 2 Z1) (some (9,false)) [4],gQ 11 (.load false 1 Z10) (some (9,false)) [5,4],gQ 12 (.fld 1 Z1) (some (9,false)) [4],gQ 13 (.load false 1 Z12) (some (9,false)) [7,4],gQ 14 (.len Z13) (some (9,false)) [8,4],gQ 15 (.call 100 [Z11,Z14]) (some (9,false)) [6,9,4,4],gQ 16 (.un .not Z15) (some (9,false)) [10,4],oQ 17 (.pick Z9 (.const (.bool true)) Z16) [4,11],oQ 18 (.mv Z17) [12,10],gQ 19 (.fld 0 Z1) (some (18,false)) [13],gQ 20 (.load false 1 Z19) (some (18,false)) [14,13],gQ 21 (.call 80 [Z20,.const (.int .i64 60)]) (some (18,false)) [15,13,13],gQ 22 (.un .not Z21) (some (18,false)) [16,13],oQ 23 (.pick Z18 (.const (.bool true)) Z22) [13,17]]
def l62r2:List AOper :=
  [oQ 2 (.mv (.const (.bool false))) []]
def l62r3:List AOper :=
  [oQ 25 (.load true 3 Z1) [],oQ 26 (.call 101 [Z25]) [0],oQ 24 (.mv Z26) [1],oQ 27 (.extract Z24 0) [2],oQ 28 (.extract Z24 1) [2],oQ 3 (.mv Z27) [3,1,0,1,2,3],oQ 4 (.mv Z28) [4,5,0,1,2,3,4,5]]
def l62r4:List AOper :=
  [oQ 29 (.load true 3 Z1) [],oQ 30 (.call 97 [Z29]) [0],oQ 31 (.bin .eql Z30 (.const (.int .i64 0))) [1],oQ 32 (.mv Z31) [2,1],gQ 33 (.mv Z3) (some (32,false)) [3],gQ 34 (.bin .geq Z33 (.const (.int .i64 0))) (some (32,false)) [4,3],gQ 35 (.mv Z34) (some (32,false)) [5,3,3],gQ 36 (.mv Z4) (some (35,true)) [6],gQ 37 (.bin .lss Z36 (.const (.int .i64 60))) (some (35,true)) [7,6],gQ 38 (.pick Z35 Z37 (.const (.bool false))) (some (32,false)) [6,8,3],oQ 39 (.pick Z32 (.const (.bool true)) Z38) [3,9],oQ 2 (.mv Z39) [10,6,0,1,2,3,4,5,6,7,8,9,10]]
def l62:AFn :=
  (AFn.mk 40 1 (.seq (.reg l62r0) (.seq (.seq (.reg l62r1) (.cond (.tmp 23) (.seq (.reg l62r2) .ret) .skip)) (.seq (.reg l62r3) (.seq (.reg l62r4) .ret)))) [.tmp 2])
theorem l62_eq:lowFn Tryz.prog 62=some l62:=by kernel_rfl
def l63r0:List AOper :=
  [oQ 1 (.box Z0) [],oQ 2 (.mv (.const (.slice none 0 0))) []]
def l63r1:List AOper :=
  [oQ 3 (.load true 3 Z1) [],oQ 4 (.bslice 3 [.int .i64 0,.slice none 0 0,.slice none 0 0] [(0,Z3)] 1) [0],oQ 5 (.call 102 [Z4]) [1],oQ 6 (.call 103 [Z5,.const (.int .i64 1)]) [2,2],oQ 2 (.mv Z6) [3,3,0,1,2,3]]
def l63:AFn :=
  (AFn.mk 7 1 (.seq (.reg l63r0) (.seq (.reg l63r1) .ret)) [.tmp 2])
theorem l63_eq:lowFn Tryz.prog 63=some l63:=by kernel_rfl
def l64r0:List AOper :=
  [oQ 1 (.box Z0) [],oQ 2 (.mv (.const (.slice none 0 0))) []]
def l64r1:List AOper :=
  [oQ 5 (.load true 3 Z1) [],oQ 6 (.call 97 [Z5]) [0],oQ 7 (.mkslice 1 [.int .i64 0] Z6 Z6) [1,1],oQ 3 (.mv Z7) [2,1,0,1,2]]
def l64r2:List AOper :=
  [oQ 8 (.mv Z3) [],oQ 9 (.len Z8) [0],oQ 10 (.mv (.const (.int .i64 0))) []]
def l64r3:List AOper :=
  [oQ 11 (.bin .lss Z10 Z9) []]
def l64r4:List AOper :=
  [oQ 12 (.mv Z10) [],oQ 4 (.mv Z12) [0,0]]
def l64r5a:List AOper :=
  [oQ 13 (.mv Z3) [],oQ 14 (.mv Z4) [],oQ 15 (.load true 3 Z1) [],oQ 16 (.fld 1 Z1) [],oQ 17 (.load false 1 Z16) [3],oQ 18 (.mv Z4) [],oQ 19 (.call 105 [Z17,Z18]) [4,5],oQ 20 (.call 104 [Z15,Z19]) [2,6,6]]
def l64r5b:List AOper :=
  [oQ 21 (.idxA 1 Z13 Z14) [0,1,0,1,2,3,4,5,6,7],nQ (.store 1 Z21 Z20) [8,7,7,0,1,2,3,4,5,6,7]]
def l64r5:List AOper:=l64r5a ++ l64r5b
def l64r6:List AOper :=
  [oQ 22 (.bin .add Z10 (.const (.int .i64 1))) [],oQ 10 (.mv Z22) [0]]
def l64r7:List AOper :=
  [oQ 23 (.mv Z3) [],oQ 2 (.mv Z23) [0,0]]
def l64:AFn :=
  (AFn.mk 24 1 (.seq (.reg l64r0) (.seq (.reg l64r1) (.seq (.seq (.reg l64r2) (.block 0 (.loop (.seq (.reg l64r3) (.seq (.cond (.tmp 11) .skip (.exit 0)) (.seq (.block 1 (.seq (.reg l64r4) (.draw l64r5))) (.reg l64r6))))))) (.seq (.reg l64r7) .ret)))) [.tmp 2])
theorem l64_eq:lowFn Tryz.prog 64=some l64:=by kernel_rfl
def l65r0:List AOper :=
  [oQ 4 (.mv (.const (.int .i64 0))) []]
def l65r1:List AOper :=
  [oQ 7 (.mv Z0) [],oQ 8 (.mv Z0) [],oQ 9 (.nilck Z8) [1],oQ 10 (.fld 1 Z9) [2],oQ 11 (.load false 1 Z10) [3],oQ 12 (.bin .add Z11 (.const (.int .i64 1))) [4],oQ 13 (.nilck Z7) [0,0,1,2,3,4,5],oQ 14 (.fld 1 Z13) [6,0,1,2,3,4,5],nQ (.store 1 Z14 Z12) [7,5,0,1,2,3,4,5]]
def l65r2:List AOper :=
  [oQ 15 (.mv Z1) [],oQ 16 (.bin .lss Z15 (.const (.int .i64 1))) [0],oQ 17 (.mv Z16) [1],gQ 18 (.mv Z0) (some (17,false)) [2],gQ 19 (.nilck Z18) (some (17,false)) [3,2],gQ 20 (.fld 0 Z19) (some (17,false)) [4,2],gQ 21 (.load false 1 Z20) (some (17,false)) [5,2],gQ 22 (.len Z21) (some (17,false)) [6,2],gQ 23 (.bin .eql Z22 (.const (.int .i64 0))) (some (17,false)) [7,2],oQ 24 (.pick Z17 (.const (.bool true)) Z23) [2,8]]
def l65r3:List AOper :=
  [oQ 4 (.mv (.const (.int .i64 0))) []]
def l65r4:List AOper :=
  [oQ 25 (.mv Z0) [],oQ 26 (.nilck Z25) [0],oQ 27 (.fld 1 Z26) [1],oQ 28 (.load false 1 Z27) [2],oQ 29 (.bin .sub Z28 (.const (.int .i64 1))) [3],oQ 5 (.mv Z29) [4,0,1,2,3,4]]
def l65r5:List AOper :=
  [oQ 30 (.mv Z5) [],oQ 31 (.mv Z0) [],oQ 32 (.nilck Z31) [1],oQ 33 (.fld 0 Z32) [2],oQ 34 (.load false 1 Z33) [3],oQ 35 (.len Z34) [4],oQ 36 (.bin .lss Z30 Z35) [0,5]]
def l65r6:List AOper :=
  [oQ 37 (.mv Z0) [],oQ 38 (.nilck Z37) [0],oQ 39 (.fld 0 Z38) [1],oQ 40 (.load false 1 Z39) [2],oQ 41 (.mv Z5) [],oQ 42 (.idxA 1 Z40 Z41) [3,4],oQ 43 (.load false 1 Z42) [5],oQ 44 (.conv .i64 Z43) [6],oQ 45 (.mv Z1) [],oQ 46 (.bin .rem Z44 Z45) [7,8],oQ 4 (.mv Z46) [9,0,1,2,3,4,5,6,7,8,9]]
def l65r7a:List AOper :=
  [oQ 47 (.mv Z0) [],oQ 48 (.nilck Z47) [0],oQ 49 (.fld 0 Z48) [1],oQ 50 (.load false 1 Z49) [2],oQ 51 (.mv Z5) [],oQ 52 (.mv Z0) [],oQ 53 (.nilck Z52) [5],oQ 54 (.fld 0 Z53) [6],oQ 55 (.load false 1 Z54) [7],oQ 56 (.len Z55) [8],oQ 57 (.bin .rem Z51 Z56) [4,9],oQ 58 (.idxA 1 Z50 Z57) [3,10],oQ 59 (.load false 1 Z58) [11],oQ 60 (.conv .i64 Z59) [12],oQ 61 (.bin .mul Z60 (.const (.int .i64 131))) [13],oQ 62 (.mv Z0) [],oQ 63 (.nilck Z62) [15],oQ 64 (.fld 0 Z63) [16],oQ 65 (.load false 1 Z64) [17],oQ 66 (.mv Z5) [],oQ 67 (.bin .mul Z66 (.const (.int .i64 7))) [19],oQ 68 (.bin .add Z67 (.const (.int .i64 3))) [20],oQ 69 (.mv Z0) [],oQ 70 (.nilck Z69) [22],oQ 71 (.fld 0 Z70) [23],oQ 72 (.load false 1 Z71) [24],oQ 73 (.len Z72) [25],oQ 74 (.bin .rem Z68 Z73) [21,26],oQ 75 (.idxA 1 Z65 Z74) [18,27],oQ 76 (.load false 1 Z75) [28],oQ 77 (.conv .i64 Z76) [29],oQ 78 (.bin .mul Z77 (.const (.int .i64 1117))) [30],oQ 79 (.bin .add Z61 Z78) [14,31],oQ 80 (.mv Z5) [],oQ 81 (.bin .mul Z80 (.const (.int .i64 29))) [33],oQ 82 (.bin .add Z79 Z81) [32,34],oQ 83 (.mv Z5) [],oQ 84 (.mv Z0) [],oQ 85 (.nilck Z84) [37],oQ 86 (.fld 0 Z85) [38],oQ 87 (.load false 1 Z86) [39],oQ 88 (.len Z87) [40],oQ 89 (.bin .quo Z83 Z88) [36,41],oQ 90 (.bin .mul Z89 (.const (.int .i64 53))) [42]]
def l65r7b:List AOper :=
  [oQ 91 (.bin .add Z82 Z90) [35,43],oQ 6 (.mv Z91) [44,0,1,2,3,4,5,6,7,8,9,10,11,12,13,14,15,16,17,18,19,20,21,22,23,24,25,26,27,28,29,30,31,32,33,34,35,36,37,38,39,40,41,42,43,44]]
def l65r7:List AOper:=l65r7a ++ l65r7b
def l65r8:List AOper :=
  [oQ 92 (.mv Z6) [],oQ 93 (.mv Z6) [],oQ 94 (.bin .quo Z93 (.const (.int .i64 64))) [1],oQ 95 (.bin .xor Z92 Z94) [0,2],oQ 6 (.mv Z95) [3,0,1,2,3]]
def l65r9:List AOper :=
  [oQ 96 (.mv Z6) [],oQ 97 (.mv Z1) [],oQ 98 (.bin .rem Z96 Z97) [0,1],oQ 4 (.mv Z98) [2,0,1,2]]
def l65:AFn :=
  (AFn.mk 99 2 (.seq (.reg l65r0) (.seq (.reg l65r1) (.seq (.seq (.reg l65r2) (.cond (.tmp 24) (.seq (.reg l65r3) .ret) .skip)) (.seq (.reg l65r4) (.seq (.seq (.reg l65r5) (.cond (.tmp 36) (.seq (.reg l65r6) .ret) .skip)) (.seq (.draw l65r7) (.seq (.reg l65r8) (.seq (.reg l65r9) .ret)))))))) [.tmp 4])
theorem l65_eq:lowFn Tryz.prog 65=some l65:=by kernel_rfl
def l67r0:List AOper :=
  [oQ 4 (.box Z1) [],oQ 5 (.box Z2) [],oQ 6 (.mv (.const (.slice none 0 0))) [],oQ 7 (.mv (.const (.bool false))) [2]]
def l67r1:List AOper :=
  [oQ 8 (.mv Z0) [],oQ 9 (.load true 3 Z4) [],oQ 10 (.load true 3 Z5) [],oQ 11 (.call 107 [Z8,Z9,Z10]) [0,1,2],oQ 12 (.un .not Z11) [3]]
def l67r2:List AOper :=
  [oQ 6 (.mv (.const (.slice none 0 0))) [],oQ 7 (.mv (.const (.bool false))) [0,0]]
def l67r3a:List AOper :=
  [oQ 13 (.mv Z0) [],oQ 14 (.load true 3 Z4) [],oQ 15 (.mv Z0) [],oQ 16 (.load true 3 Z5) [],oQ 17 (.call 52 [Z15,Z16]) [2,3]]
def l67r3b:List AOper :=
  [oQ 18 (.call 108 [Z13,Z14,Z17]) [0,1,4,4],oQ 6 (.mv Z18) [5,5,0,1,2,3,4,5],oQ 7 (.mv (.const (.bool true))) [6,0,1,2,3,4,5,6]]
def l67r3:List AOper:=l67r3a ++ l67r3b
def l67:AFn :=
  (AFn.mk 19 3 (.seq (.reg l67r0) (.seq (.seq (.reg l67r1) (.cond (.tmp 12) (.seq (.reg l67r2) .ret) .skip)) (.seq (.draw l67r3) .ret))) [.tmp 6,.tmp 7])
theorem l67_eq:lowFn Tryz.prog 67=some l67:=by kernel_rfl
def l68r0:List AOper :=
  [oQ 2 (.alloc [.slice none 0 0,.slice none 0 0]) []]
def l68r1:List AOper :=
  [oQ 4 (.mv Z0) [],oQ 5 (.call 109 [Z4]) [0],oQ 3 (.alloc [.slice none 0 0,.slice none 0 0]) [],nQ (.store 2 Z3 Z5) [2,1,1,0,1,2]]
def l68r2:List AOper :=
  [oQ 6 (.mv Z0) [],oQ 7 (.call 65 [Z6,.const (.int .i64 20)]) [0]]
def l68r3:List AOper :=
  [oQ 9 (.bin .eql Z7 (.const (.int .i64 0))) [],oQ 8 (.mv Z9) [0]]
def l68r4:List AOper :=
  [oQ 10 (.fld 0 Z3) [],oQ 11 (.load false 1 Z10) [0],oQ 12 (.bslice 1 [.int .i64 0] [(0,.const (.int .i64 256))] 1) [],oQ 13 (.append 1 Z11 Z12) [1,2],oQ 14 (.fld 0 Z3) [0,1,2,3],nQ (.store 1 Z14 Z13) [4,3,3,0,1,2,3]]
def l68r5:List AOper :=
  [oQ 16 (.bin .eql Z7 (.const (.int .i64 1))) [],oQ 15 (.mv Z16) [0]]
def l68r6a:List AOper :=
  [oQ 17 (.fld 1 Z3) [],oQ 18 (.load false 1 Z17) [0],oQ 19 (.mv Z0) [],oQ 20 (.bslice 1 [.int .i64 0] [(0,.const (.int .i64 (-2))),(1,.const (.int .i64 8))] 2) [],oQ 21 (.call 57 [Z19,Z20]) [2,3],oQ 22 (.build [.int .i64 0,.int .i64 0,.slice none 0 0,.slice none 0 0,.bool false] [(0,1,Z21),(4,1,.const (.bool true))]) [4],oQ 23 (.bslice 5 [.int .i64 0,.int .i64 0,.slice none 0 0,.slice none 0 0,.bool false] [(0,Z22)] 1) [5]]
def l68r6b:List AOper :=
  [oQ 24 (.append 5 Z18 Z23) [1,6,4],oQ 25 (.fld 1 Z3) [0,1,2,3,4,5,6,7],nQ (.store 1 Z25 Z24) [8,7,7,0,1,2,3,4,5,6,7]]
def l68r6:List AOper:=l68r6a ++ l68r6b
def l68r7:List AOper :=
  [oQ 27 (.bin .eql Z7 (.const (.int .i64 2))) [],oQ 26 (.mv Z27) [0]]
def l68r8:List AOper :=
  [oQ 28 (.fld 1 Z3) [],oQ 29 (.load false 1 Z28) [0],oQ 30 (.build [.int .i64 0,.slice none 0 0,.slice none 0 0] [(0,1,.const (.int .i64 59))]) [],oQ 31 (.build [.int .i64 0,.int .i64 0,.slice none 0 0,.slice none 0 0,.bool false] [(0,1,.const (.int .i64 (-1))),(1,3,Z30),(4,1,.const (.bool true))]) [2],oQ 32 (.bslice 5 [.int .i64 0,.int .i64 0,.slice none 0 0,.slice none 0 0,.bool false] [(0,Z31)] 1) [3],oQ 33 (.append 5 Z29 Z32) [1,4],oQ 34 (.fld 1 Z3) [0,1,2,3,4,5],nQ (.store 1 Z34 Z33) [6,5,5,0,1,2,3,4,5]]
def l68r9:List AOper :=
  [oQ 35 (.load true 2 Z3) [],nQ (.store 2 Z2 Z35) [0,0]]
def l68:AFn :=
  (AFn.mk 36 1 (.seq (.reg l68r0) (.seq (.reg l68r1) (.seq (.seq (.reg l68r2) (.block 0 (.seq (.reg l68r3) (.cond (.tmp 8) (.reg l68r4) (.seq (.reg l68r5) (.cond (.tmp 15) (.draw l68r6) (.seq (.reg l68r7) (.cond (.tmp 26) (.reg l68r8) .skip)))))))) (.seq (.reg l68r9) .ret)))) [.cell 2 true 2])
theorem l68_eq:lowFn Tryz.prog 68=some l68:=by kernel_rfl
def l70r0:List AOper :=
  [oQ 2 (.box Z0) [],oQ 4 (.mv (.const (.bool false))) []]
def l70r1:List AOper :=
  [oQ 7 (.load true 3 Z2) [],oQ 8 (.call 62 [Z7]) [0],oQ 9 (.un .not Z8) [1],oQ 10 (.mv Z9) [2,1],gQ 11 (.mv Z1) (some (10,false)) [3],gQ 12 (.call 80 [Z11,.const (.int .i64 60)]) (some (10,false)) [4,3,3],gQ 13 (.un .not Z12) (some (10,false)) [5,3],oQ 14 (.pick Z10 (.const (.bool true)) Z13) [3,6]]
def l70r2:List AOper :=
  [oQ 4 (.mv (.const (.bool false))) []]
def l70r3:List AOper :=
  [oQ 16 (.load true 3 Z2) [],oQ 17 (.call 101 [Z16]) [0],oQ 15 (.mv Z17) [1],oQ 18 (.extract Z15 0) [2],oQ 19 (.extract Z15 1) [2],oQ 5 (.mv Z18) [3,1,0,1,2,3],oQ 6 (.mv Z19) [4,5,0,1,2,3,4,5]]
def l70r4:List AOper :=
  [oQ 20 (.mv Z6) [],oQ 21 (.mv Z1) [],oQ 22 (.bin .lss Z20 Z21) [0,1],oQ 4 (.mv Z22) [2,0,1,2]]
def l70:AFn :=
  (AFn.mk 23 2 (.seq (.reg l70r0) (.seq (.seq (.reg l70r1) (.cond (.tmp 14) (.seq (.reg l70r2) .ret) .skip)) (.seq (.reg l70r3) (.seq (.reg l70r4) .ret)))) [.tmp 4])
theorem l70_eq:lowFn Tryz.prog 70=some l70:=by kernel_rfl
def l71r0:List AOper :=
  [oQ 3 (.box Z0) [],oQ 5 (.box Z2) [],oQ 6 (.alloc [.slice none 0 0,.slice none 0 0]) [],oQ 7 (.mv (.const (.bool false))) []]
def l71r1:List AOper :=
  [oQ 9 (.fld 1 Z3) [],oQ 10 (.load false 1 Z9) [0],oQ 11 (.len Z10) [1],oQ 12 (.bin .eql Z11 (.const (.int .i64 8))) [2]]
def l71r2:List AOper :=
  [oQ 13 (.build [.slice none 0 0,.slice none 0 0] []) [],nQ (.store 2 Z6 Z13) [0,0],oQ 7 (.mv (.const (.bool false))) [1,0,1]]
def l71r3:List AOper :=
  [oQ 14 (.load true 2 Z3) [],oQ 15 (.call 46 [Z14]) [0],oQ 8 (.alloc [.slice none 0 0,.slice none 0 0]) [],nQ (.store 2 Z8 Z15) [2,1,1,0,1,2]]
def l71r4a:List AOper :=
  [oQ 16 (.fld 1 Z8) [],oQ 17 (.load false 1 Z16) [0],oQ 18 (.mv Z1) [],oQ 19 (.load true 3 Z5) [],oQ 20 (.call 85 [Z19]) [3],oQ 21 (.build [.int .i64 0,.int .i64 0,.slice none 0 0,.slice none 0 0,.bool false] [(0,1,Z18),(1,3,Z20),(4,1,.const (.bool true))]) [2,4],oQ 22 (.bslice 5 [.int .i64 0,.int .i64 0,.slice none 0 0,.slice none 0 0,.bool false] [(0,Z21)] 1) [5]]
def l71r4b:List AOper :=
  [oQ 23 (.append 5 Z17 Z22) [1,6,4],oQ 24 (.fld 1 Z8) [0,1,2,3,4,5,6,7],nQ (.store 1 Z24 Z23) [8,7,7,0,1,2,3,4,5,6,7]]
def l71r4:List AOper:=l71r4a ++ l71r4b
def l71r5:List AOper :=
  [oQ 25 (.load true 2 Z8) [],nQ (.store 2 Z6 Z25) [0,0],oQ 7 (.mv (.const (.bool true))) [1,0,1]]
def l71:AFn :=
  (AFn.mk 26 3 (.seq (.reg l71r0) (.seq (.seq (.reg l71r1) (.cond (.tmp 12) (.seq (.reg l71r2) .ret) .skip)) (.seq (.reg l71r3) (.seq (.draw l71r4) (.seq (.reg l71r5) .ret))))) [.cell 6 true 2,.tmp 7])
theorem l71_eq:lowFn Tryz.prog 71=some l71:=by kernel_rfl
def l72r0:List AOper :=
  [oQ 1 (.box Z0) [],oQ 2 (.mv (.const (.bool false))) []]
def l72r1:List AOper :=
  [oQ 3 (.fld 1 Z1) [],oQ 4 (.load false 1 Z3) [0],oQ 5 (.call 111 [Z4]) [1],oQ 6 (.mv Z5) [2,2],gQ 7 (.fld 2 Z1) (some (6,true)) [3],gQ 8 (.load false 1 Z7) (some (6,true)) [4,3],gQ 9 (.len Z8) (some (6,true)) [5,3],gQ 10 (.fld 1 Z1) (some (6,true)) [3],gQ 11 (.load false 1 Z10) (some (6,true)) [7,3],gQ 12 (.len Z11) (some (6,true)) [8,3],gQ 13 (.bin .eql Z9 Z12) (some (6,true)) [6,9,3],oQ 14 (.pick Z6 Z13 (.const (.bool false))) [3,10],oQ 15 (.mv Z14) [11,3],gQ 16 (.fld 2 Z1) (some (15,true)) [12],gQ 17 (.load false 1 Z16) (some (15,true)) [13,12],gQ 18 (.call 112 [Z17,.const (.int .i64 (-60)),.const (.int .i64 60)]) (some (15,true)) [14,12,12],oQ 19 (.pick Z15 Z18 (.const (.bool false))) [12,15],oQ 20 (.mv Z19) [16,15],gQ 21 (.fld 0 Z1) (some (20,true)) [17],gQ 22 (.load false 1 Z21) (some (20,true)) [18,17],gQ 23 (.call 60 [Z22,.const (.int .i64 0),.const (.int .i64 60)]) (some (20,true)) [19,17,17],oQ 24 (.pick Z20 Z23 (.const (.bool false))) [17,20],oQ 25 (.mv Z24) [21,20],gQ 26 (.fld 1 Z1) (some (25,true)) [22],gQ 27 (.load false 1 Z26) (some (25,true)) [23,22],gQ 28 (.call 113 [Z27]) (some (25,true)) [24,22,22],gQ 29 (.bin .eql Z28 (.const (.int .i64 0))) (some (25,true)) [25,22],gQ 30 (.mv Z29) (some (25,true)) [26,25,22],gQ 31 (.load true 3 Z1) (some (30,false)) [27],gQ 32 (.call 90 [Z31]) (some (30,false)) [28,27,27],gQ 33 (.call 112 [Z32,.const (.int .i64 0),.const (.int .i64 59)]) (some (30,false)) [29,29,27],gQ 34 (.pick Z30 (.const (.bool true)) Z33) (some (25,true)) [27,30,22],oQ 35 (.pick Z25 Z34 (.const (.bool false))) [22,31],oQ 2 (.mv Z35) [32,30,0,1,2,3,4,5,6,7,8,9,10,11,12,13,14,15,16,17,18,19,20,21,22,23,24,25,26,27,28,29,30,31,32]]
def l72:AFn :=
  (AFn.mk 36 1 (.seq (.reg l72r0) (.seq (.reg l72r1) .ret)) [.tmp 2])
theorem l72_eq:lowFn Tryz.prog 72=some l72:=by kernel_rfl
def l73r0:List AOper :=
  [oQ 2 (.box Z0) [],oQ 4 (.mv (.const (.bool false))) []]
def l73r1:List AOper :=
  [oQ 5 (.load true 3 Z2) [],oQ 6 (.call 90 [Z5]) [0],oQ 7 (.mv Z1) [],oQ 8 (.bin .sub Z7 (.const (.int .i64 1))) [2],oQ 9 (.call 112 [Z6,.const (.int .i64 0),Z8]) [1,3,1],oQ 4 (.mv Z9) [4,4,0,1,2,3,4]]
def l73:AFn :=
  (AFn.mk 10 2 (.seq (.reg l73r0) (.seq (.reg l73r1) .ret)) [.tmp 4])
theorem l73_eq:lowFn Tryz.prog 73=some l73:=by kernel_rfl
def l74r0:List AOper :=
  [oQ 3 (.box Z0) [],oQ 5 (.box Z2) [],oQ 6 (.alloc [.slice none 0 0,.slice none 0 0]) []]
def l74r1:List AOper :=
  [oQ 8 (.load true 2 Z3) [],oQ 9 (.call 50 [Z8]) [0],oQ 7 (.alloc [.slice none 0 0,.slice none 0 0]) [],nQ (.store 2 Z7 Z9) [2,1,1,0,1,2]]
def l74r2a:List AOper :=
  [oQ 10 (.fld 1 Z7) [],oQ 11 (.load false 1 Z10) [0],oQ 12 (.mv Z1) [],oQ 13 (.load true 3 Z5) [],oQ 14 (.call 89 [Z13]) [3],oQ 15 (.build [.int .i64 0,.int .i64 0,.slice none 0 0,.slice none 0 0,.bool false] [(0,1,Z12),(1,3,Z14),(4,1,.const (.bool true))]) [2,4],oQ 16 (.bslice 5 [.int .i64 0,.int .i64 0,.slice none 0 0,.slice none 0 0,.bool false] [(0,Z15)] 1) [5]]
def l74r2b:List AOper :=
  [oQ 17 (.append 5 Z11 Z16) [1,6,4],oQ 18 (.fld 1 Z7) [0,1,2,3,4,5,6,7],nQ (.store 1 Z18 Z17) [8,7,7,0,1,2,3,4,5,6,7]]
def l74r2:List AOper:=l74r2a ++ l74r2b
def l74r3:List AOper :=
  [oQ 19 (.load true 2 Z7) [],nQ (.store 2 Z6 Z19) [0,0]]
def l74:AFn :=
  (AFn.mk 20 3 (.seq (.reg l74r0) (.seq (.reg l74r1) (.seq (.draw l74r2) (.seq (.reg l74r3) .ret)))) [.cell 6 true 2])
theorem l74_eq:lowFn Tryz.prog 74=some l74:=by kernel_rfl
def l75r0:List AOper :=
  [oQ 2 (.alloc [.int .i64 0,.int .i64 0,.int .i64 0,.bool false,.bool false]) []]
def l75r1:List AOper :=
  [oQ 4 (.mv Z0) [],oQ 5 (.bslice 1 [.int .i64 0] [(0,.const (.int .i64 1)),(1,.const (.int .i64 2)),(2,.const (.int .i64 (-1))),(3,.const (.int .i64 3)),(4,.const (.int .i64 (-2))),(5,.const (.int .i64 1)),(6,.const (.int .i64 5))] 7) [],oQ 6 (.call 57 [Z4,Z5]) [0,1],oQ 7 (.build [.int .i64 0,.int .i64 0,.int .i64 0,.bool false,.bool false] [(2,1,Z6)]) [2],oQ 3 (.alloc [.int .i64 0,.int .i64 0,.int .i64 0,.bool false,.bool false]) [],nQ (.store 5 Z3 Z7) [4,3,2,0,1,2,3,4]]
def l75r2:List AOper :=
  [oQ 8 (.mv Z0) [],oQ 9 (.call 65 [Z8,.const (.int .i64 2)]) [0],oQ 10 (.bin .eql Z9 (.const (.int .i64 0))) [1]]
def l75r3:List AOper :=
  [oQ 11 (.fld 3 Z3) [],nQ (.store 1 Z11 (.const (.bool true))) [0]]
def l75r4:List AOper :=
  [oQ 12 (.mv Z0) [],oQ 13 (.mv Z0) [],oQ 14 (.call 65 [Z13,.const (.int .i64 12)]) [1],oQ 15 (.bslice 1 [.int .i64 0] [(0,.const (.int .i64 1)),(1,.const (.int .i64 2)),(2,.const (.int .i64 0)),(3,.const (.int .i64 (-1))),(4,.const (.int .i64 (-3))),(5,Z14),(6,.const (.int .i64 30)),(7,.const (.int .i64 (-30)))] 8) [2],oQ 16 (.call 57 [Z12,Z15]) [0,3,2],oQ 17 (.fld 0 Z3) [0,1,2,3,4],nQ (.store 1 Z17 Z16) [5,4,4,0,1,2,3,4]]
def l75r5:List AOper :=
  [oQ 18 (.mv Z0) [],oQ 19 (.call 65 [Z18,.const (.int .i64 2)]) [0],oQ 20 (.bin .eql Z19 (.const (.int .i64 0))) [1]]
def l75r6:List AOper :=
  [oQ 21 (.fld 4 Z3) [],nQ (.store 1 Z21 (.const (.bool true))) [0]]
def l75r7:List AOper :=
  [oQ 22 (.mv Z0) [],oQ 23 (.mv Z0) [],oQ 24 (.call 65 [Z23,.const (.int .i64 12)]) [1],oQ 25 (.bslice 1 [.int .i64 0] [(0,.const (.int .i64 4)),(1,.const (.int .i64 3)),(2,.const (.int .i64 (-1))),(3,.const (.int .i64 (-2))),(4,.const (.int .i64 0)),(5,Z24),(6,.const (.int .i64 30)),(7,.const (.int .i64 (-30)))] 8) [2],oQ 26 (.call 57 [Z22,Z25]) [0,3,2],oQ 27 (.fld 1 Z3) [0,1,2,3,4],nQ (.store 1 Z27 Z26) [5,4,4,0,1,2,3,4]]
def l75r8:List AOper :=
  [oQ 28 (.mv Z0) [],oQ 29 (.call 65 [Z28,.const (.int .i64 24)]) [0]]
def l75r9:List AOper :=
  [oQ 31 (.bin .eql Z29 (.const (.int .i64 0))) [],oQ 30 (.mv Z31) [0]]
def l75r10:List AOper :=
  [oQ 32 (.mv Z0) [],oQ 33 (.bslice 1 [.int .i64 0] [(0,.const (.int .i64 0)),(1,.const (.int .i64 201))] 2) [],oQ 34 (.call 57 [Z32,Z33]) [0,1],oQ 35 (.fld 2 Z3) [0,1,2],nQ (.store 1 Z35 Z34) [3,2,2,0,1,2]]
def l75r11:List AOper :=
  [oQ 37 (.bin .eql Z29 (.const (.int .i64 1))) [],oQ 36 (.mv Z37) [0]]
def l75r12:List AOper :=
  [oQ 38 (.fld 0 Z3) [],nQ (.store 1 Z38 (.const (.int .i64 101))) [0]]
def l75r13:List AOper :=
  [oQ 40 (.bin .eql Z29 (.const (.int .i64 2))) [],oQ 39 (.mv Z40) [0]]
def l75r14:List AOper :=
  [oQ 41 (.mv Z0) [],oQ 42 (.bslice 1 [.int .i64 0] [(0,.const (.int .i64 1)),(1,.const (.int .i64 (-101)))] 2) [],oQ 43 (.call 57 [Z41,Z42]) [0,1],oQ 44 (.fld 1 Z3) [0,1,2],nQ (.store 1 Z44 Z43) [3,2,2,0,1,2]]
def l75r15:List AOper :=
  [oQ 45 (.load true 5 Z3) [],nQ (.store 5 Z2 Z45) [0,0]]
def l75:AFn :=
  (AFn.mk 46 1 (.seq (.reg l75r0) (.seq (.reg l75r1) (.seq (.seq (.reg l75r2) (.cond (.tmp 10) (.seq (.reg l75r3) (.reg l75r4)) .skip)) (.seq (.seq (.reg l75r5) (.cond (.tmp 20) (.seq (.reg l75r6) (.reg l75r7)) .skip)) (.seq (.seq (.reg l75r8) (.block 0 (.seq (.reg l75r9) (.cond (.tmp 30) (.reg l75r10) (.seq (.reg l75r11) (.cond (.tmp 36) (.reg l75r12) (.seq (.reg l75r13) (.cond (.tmp 39) (.reg l75r14) .skip)))))))) (.seq (.reg l75r15) .ret)))))) [.cell 2 true 5])
theorem l75_eq:lowFn Tryz.prog 75=some l75:=by kernel_rfl
def l76r0:List AOper :=
  [oQ 3 (.box Z0) [],oQ 5 (.box Z2) [],oQ 6 (.alloc [.int .i64 0,.slice none 0 0,.slice none 0 0]) [],oQ 7 (.mv (.const (.bool false))) []]
def l76r1:List AOper :=
  [oQ 10 (.load true 3 Z3) [],oQ 11 (.mv Z1) [],oQ 12 (.call 114 [Z10,Z11]) [0,1],oQ 13 (.un .not Z12) [2],oQ 14 (.mv Z13) [3,2],gQ 15 (.load true 5 Z5) (some (14,false)) [4],gQ 16 (.call 115 [Z15]) (some (14,false)) [5,4,4],gQ 17 (.un .not Z16) (some (14,false)) [6,4],oQ 18 (.pick Z14 (.const (.bool true)) Z17) [4,7]]
def l76r2:List AOper :=
  [oQ 19 (.build [.int .i64 0,.slice none 0 0,.slice none 0 0] []) [],nQ (.store 3 Z6 Z19) [0,0],oQ 7 (.mv (.const (.bool false))) [1,0,1]]
def l76r3a:List AOper :=
  [oQ 20 (.load true 5 Z5) [],oQ 21 (.fld 1 Z3) [],oQ 22 (.load false 1 Z21) [1],oQ 23 (.mv Z1) [],oQ 24 (.idxA 1 Z22 Z23) [2,3],oQ 25 (.load false 1 Z24) [4],oQ 26 (.call 116 [Z20,Z25]) [0,5],oQ 8 (.alloc [.int .i64 0,.int .i64 0,.int .i64 0]) []]
def l76r3b:List AOper :=
  [nQ (.store 3 Z8 Z26) [7,6,6,0,1,2,3,4,5,6,7]]
def l76r3:List AOper:=l76r3a ++ l76r3b
def l76r4:List AOper :=
  [oQ 27 (.load true 3 Z3) [],oQ 28 (.call 117 [Z27]) [0],oQ 9 (.alloc [.int .i64 0,.slice none 0 0,.slice none 0 0,.int .i64 0,.int .i64 0,.int .i64 0,.int .i64 0,.slice none 0 0]) [],nQ (.store 8 Z9 Z28) [2,1,1,0,1,2]]
def l76r5:List AOper :=
  [oQ 29 (.mv Z1) [],oQ 30 (.fld 0 Z8) [],oQ 31 (.load false 1 Z30) [1],oQ 32 (.fld 3 Z9) [],oQ 33 (.idxP 1 4 Z32 Z29) [3,0,0,1,2],nQ (.store 1 Z33 Z31) [4,2,0,1,2]]
def l76r6a:List AOper :=
  [oQ 34 (.fld 7 Z9) [],oQ 35 (.load false 1 Z34) [0],oQ 36 (.mv Z1) [],oQ 37 (.load true 3 Z8) [],oQ 38 (.call 119 [Z37]) [3],oQ 39 (.fld 2 Z3) [],oQ 40 (.load false 1 Z39) [5],oQ 41 (.mv Z1) [],oQ 42 (.idxA 1 Z40 Z41) [6,7],oQ 43 (.load false 1 Z42) [8],oQ 44 (.fld 2 Z8) [],oQ 45 (.load false 1 Z44) [10],oQ 46 (.bin .mul Z43 Z45) [9,11],oQ 47 (.call 118 [Z38,Z46]) [4,12,4]]
def l76r6b:List AOper :=
  [oQ 48 (.idxA 2 Z35 Z36) [1,2,0,1,2,3,4,5,6,7,8,9,10,11,12,13],nQ (.store 2 Z48 Z47) [14,13,13,0,1,2,3,4,5,6,7,8,9,10,11,12,13]]
def l76r6:List AOper:=l76r6a ++ l76r6b
def l76r7:List AOper :=
  [oQ 49 (.load true 8 Z9) [],oQ 50 (.call 120 [Z49]) [0],nQ (.store 3 Z6 Z50) [1,1,0,1],oQ 7 (.mv (.const (.bool true))) [2,0,1,2]]
def l76:AFn :=
  (AFn.mk 51 3 (.seq (.reg l76r0) (.seq (.seq (.reg l76r1) (.cond (.tmp 18) (.seq (.reg l76r2) .ret) .skip)) (.seq (.draw l76r3) (.seq (.reg l76r4) (.seq (.reg l76r5) (.seq (.draw l76r6) (.seq (.reg l76r7) .ret))))))) [.cell 6 true 3,.tmp 7])
theorem l76_eq:lowFn Tryz.prog 76=some l76:=by kernel_rfl
def l77r0:List AOper :=
  [oQ 3 (.box Z0) [],oQ 5 (.box Z2) [],oQ 6 (.alloc [.int .i64 0,.slice none 0 0,.slice none 0 0]) [],oQ 7 (.mv (.const (.bool false))) []]
def l77r1:List AOper :=
  [oQ 8 (.load true 3 Z3) [],oQ 9 (.call 72 [Z8]) [0],oQ 10 (.un .not Z9) [1],oQ 11 (.mv Z10) [2,1],gQ 12 (.load true 3 Z3) (some (11,false)) [3],gQ 13 (.mv Z1) (some (11,false)) [3],gQ 14 (.call 121 [Z12,Z13]) (some (11,false)) [4,5,3,3],gQ 15 (.un .not Z14) (some (11,false)) [6,3],oQ 16 (.pick Z11 (.const (.bool true)) Z15) [3,7],oQ 17 (.mv Z16) [8,6],gQ 18 (.load true 5 Z5) (some (17,false)) [9],gQ 19 (.call 122 [Z18]) (some (17,false)) [10,9,9],gQ 20 (.un .not Z19) (some (17,false)) [11,9],oQ 21 (.pick Z17 (.const (.bool true)) Z20) [9,12]]
def l77r2:List AOper :=
  [oQ 22 (.build [.int .i64 0,.slice none 0 0,.slice none 0 0] []) [],nQ (.store 3 Z6 Z22) [0,0],oQ 7 (.mv (.const (.bool false))) [1,0,1]]
def l77r3:List AOper :=
  [oQ 23 (.load true 3 Z3) [],oQ 24 (.mv Z1) [],oQ 25 (.load true 5 Z5) [],oQ 26 (.call 124 [Z23,Z24,Z25]) [0,1,2],oQ 27 (.call 123 [Z26]) [3,3],oQ 28 (.extract Z27 0) [4],oQ 29 (.extract Z27 1) [4],nQ (.store 3 Z6 Z28) [5,4,0,1,2,3,4,5,6],oQ 7 (.mv Z29) [6,7,0,1,2,3,4,5,6,7]]
def l77:AFn :=
  (AFn.mk 30 3 (.seq (.reg l77r0) (.seq (.seq (.reg l77r1) (.cond (.tmp 21) (.seq (.reg l77r2) .ret) .skip)) (.seq (.reg l77r3) .ret))) [.cell 6 true 3,.tmp 7])
theorem l77_eq:lowFn Tryz.prog 77=some l77:=by kernel_rfl
def l78r0:List AOper :=
  [oQ 4 (.mv (.const (.bool false))) []]
def l78r1:List AOper :=
  [oQ 6 (.mv Z0) [],oQ 7 (.len Z6) [0],oQ 8 (.mv Z1) [],oQ 9 (.len Z8) [2],oQ 10 (.bin .neq Z7 Z9) [1,3]]
def l78r2:List AOper :=
  [oQ 4 (.mv (.const (.bool false))) []]
def l78r3:List AOper :=
  [oQ 11 (.mv Z0) [],oQ 12 (.len Z11) [0],oQ 13 (.mv (.const (.int .i64 0))) []]
def l78r4:List AOper :=
  [oQ 14 (.bin .lss Z13 Z12) []]
def l78r5:List AOper :=
  [oQ 15 (.mv Z13) [],oQ 5 (.mv Z15) [0,0]]
def l78r6a:List AOper :=
  [oQ 16 (.mv Z0) [],oQ 17 (.mv Z5) [],oQ 18 (.idxA 1 Z16 Z17) [0,1],oQ 19 (.load false 1 Z18) [2],oQ 20 (.mv Z1) [],oQ 21 (.mv Z5) [],oQ 22 (.idxA 1 Z20 Z21) [4,5],oQ 23 (.load false 1 Z22) [6]]
def l78r6b:List AOper :=
  [oQ 24 (.bin .neq Z19 Z23) [3,7]]
def l78r6:List AOper:=l78r6a ++ l78r6b
def l78r7:List AOper :=
  [oQ 4 (.mv (.const (.bool false))) []]
def l78r8:List AOper :=
  [oQ 25 (.bin .add Z13 (.const (.int .i64 1))) [],oQ 13 (.mv Z25) [0]]
def l78r9:List AOper :=
  [oQ 4 (.mv (.const (.bool true))) []]
def l78:AFn :=
  (AFn.mk 26 2 (.seq (.reg l78r0) (.seq (.seq (.reg l78r1) (.cond (.tmp 10) (.seq (.reg l78r2) .ret) .skip)) (.seq (.seq (.reg l78r3) (.block 0 (.loop (.seq (.reg l78r4) (.seq (.cond (.tmp 14) .skip (.exit 0)) (.seq (.block 1 (.seq (.reg l78r5) (.seq (.draw l78r6) (.cond (.tmp 24) (.seq (.reg l78r7) .ret) .skip)))) (.reg l78r8))))))) (.seq (.reg l78r9) .ret)))) [.tmp 4])
theorem l78_eq:lowFn Tryz.prog 78=some l78:=by kernel_rfl
def l79r0:List AOper :=
  [oQ 2 (.box Z0) [],oQ 3 (.box Z1) [],oQ 4 (.mv (.const (.slice none 0 0))) []]
def l79r1:List AOper :=
  [oQ 6 (.raw (Op.makeMap 114 none)) [],oQ 5 (.mv Z6) [0,0]]
def l79r2:List AOper :=
  [oQ 7 (.mv Z5) [],oQ 8 (.load true 3 Z2) [],oQ 9 (.call 63 [Z8]) [1],oQ 10 (.call 125 [Z7,Z9]) [0,2,2]]
def l79r3:List AOper :=
  [oQ 11 (.mv Z5) [],oQ 12 (.load true 3 Z3) [],oQ 13 (.call 63 [Z12]) [1],oQ 14 (.call 125 [Z11,Z13]) [0,2,2]]
def l79r4:List AOper :=
  [oQ 15 (.mv Z5) [],oQ 16 (.call 103 [Z15,.const (.int .i64 2)]) [0],oQ 4 (.mv Z16) [1,1,0,1]]
def l79:AFn :=
  (AFn.mk 17 2 (.seq (.reg l79r0) (.seq (.reg l79r1) (.seq (.reg l79r2) (.seq (.reg l79r3) (.seq (.reg l79r4) .ret))))) [.tmp 4])
theorem l79_eq:lowFn Tryz.prog 79=some l79:=by kernel_rfl
def l80r0:List AOper :=
  [oQ 4 (.mv (.const (.bool false))) []]
def l80r1:List AOper :=
  [oQ 5 (.mv Z0) [],oQ 6 (.bin .leq (.const (.int .i64 0)) Z5) [0],oQ 7 (.mv Z6) [1],gQ 8 (.mv Z0) (some (7,true)) [2],gQ 9 (.mv Z1) (some (7,true)) [2],gQ 10 (.bin .leq Z8 Z9) (some (7,true)) [3,4,2],oQ 11 (.pick Z7 Z10 (.const (.bool false))) [2,5],oQ 4 (.mv Z11) [6,2,0,1,2,3,4,5,6]]
def l80:AFn :=
  (AFn.mk 12 2 (.seq (.reg l80r0) (.seq (.reg l80r1) .ret)) [.tmp 4])
theorem l80_eq:lowFn Tryz.prog 80=some l80:=by kernel_rfl
def l83r0:List AOper :=
  [oQ 6 (.mv (.const (.pointer none))) []]
def l83r1:List AOper :=
  [oQ 7 (.mv Z2) []]
def l83r2:List AOper :=
  [oQ 8 (.mv Z0) [],oQ 9 (.mv Z0) [],oQ 10 (.nilck Z9) [1],oQ 11 (.fld 0 Z10) [2],oQ 12 (.load false 1 Z11) [3],oQ 13 (.mv Z1) [],oQ 14 (.bslice 1 [.int .i64 0] [(0,Z13)] 1) [5],oQ 15 (.append 1 Z12 Z14) [4,6],oQ 16 (.nilck Z8) [0,0,1,2,3,4,5,6,7],oQ 17 (.fld 0 Z16) [8,0,1,2,3,4,5,6,7],nQ (.store 1 Z17 Z15) [9,7,7,0,1,2,3,4,5,6,7]]
def l83r3:List AOper :=
  [oQ 18 (.build [.slice none 0 0] []) [],oQ 19 (.box Z18) [0],oQ 6 (.mv Z19) [1,0,1]]
def l83:AFn :=
  (AFn.mk 20 3 (.seq (.reg l83r0) (.seq (.seq (.reg l83r1) (.cond (.tmp 7) (.reg l83r2) .skip)) (.seq (.reg l83r3) .ret))) [.tmp 6])
theorem l83_eq:lowFn Tryz.prog 83=some l83:=by kernel_rfl
def l84r0:List AOper :=
  [oQ 2 (.mv (.const (.slice none 0 0))) []]
def l84r1:List AOper :=
  [oQ 3 (.mv Z0) [],oQ 4 (.isnil false Z3) [0]]
def l84r2:List AOper :=
  [oQ 2 (.mv (.const (.slice none 0 0))) []]
def l84r3:List AOper :=
  [oQ 5 (.bslice 1 [.int .i64 0] [] 0) [],oQ 6 (.mv Z0) [],oQ 7 (.append 1 Z5 Z6) [0,1],oQ 2 (.mv Z7) [2,2,0,1,2]]
def l84:AFn :=
  (AFn.mk 8 1 (.seq (.reg l84r0) (.seq (.seq (.reg l84r1) (.cond (.tmp 4) (.seq (.reg l84r2) .ret) .skip)) (.seq (.reg l84r3) .ret))) [.tmp 2])
theorem l84_eq:lowFn Tryz.prog 84=some l84:=by kernel_rfl
def l85r0:List AOper :=
  [oQ 1 (.box Z0) [],oQ 2 (.alloc [.int .i64 0,.slice none 0 0,.slice none 0 0]) []]
def l85r1a:List AOper :=
  [oQ 3 (.fld 0 Z1) [],oQ 4 (.load false 1 Z3) [0],oQ 5 (.fld 1 Z1) [],oQ 6 (.load false 1 Z5) [2],oQ 7 (.call 84 [Z6]) [3],oQ 8 (.fld 2 Z1) [],oQ 9 (.load false 1 Z8) [5],oQ 10 (.call 84 [Z9]) [6,4]]
def l85r1b:List AOper :=
  [oQ 11 (.build [.int .i64 0,.slice none 0 0,.slice none 0 0] [(0,1,Z4),(1,1,Z7),(2,1,Z10)]) [1,4,7],nQ (.store 3 Z2 Z11) [8,7,0,1,2,3,4,5,6,7,8]]
def l85r1:List AOper:=l85r1a ++ l85r1b
def l85:AFn :=
  (AFn.mk 12 1 (.seq (.reg l85r0) (.seq (.draw l85r1) .ret)) [.cell 2 true 3])
theorem l85_eq:lowFn Tryz.prog 85=some l85:=by kernel_rfl
def l86r0:List AOper :=
  [oQ 2 (.box Z0) [],oQ 4 (.mv (.const (.bool false))) []]
def l86r1:List AOper :=
  [oQ 6 (.fld 1 Z2) [],oQ 7 (.load false 1 Z6) [0],oQ 8 (.mv Z1) [],oQ 9 (.idxA 5 Z7 Z8) [1,2],oQ 10 (.load true 5 Z9) [3],oQ 5 (.alloc [.int .i64 0,.int .i64 0,.slice none 0 0,.slice none 0 0,.bool false]) [],nQ (.store 5 Z5 Z10) [5,4,0,1,2,3,4,5]]
def l86r2:List AOper :=
  [oQ 11 (.fld 0 Z5) [],oQ 12 (.load false 1 Z11) [0],oQ 13 (.mv Z1) [],oQ 14 (.bin .sub Z13 (.const (.int .i64 1))) [2],oQ 15 (.call 60 [Z12,.const (.int .i64 (-1)),Z14]) [1,3],oQ 16 (.un .not Z15) [4],oQ 17 (.mv Z16) [5,4],gQ 18 (.fld 1 Z5) (some (17,false)) [6],gQ 19 (.load true 3 Z18) (some (17,false)) [7,6],gQ 20 (.call 72 [Z19]) (some (17,false)) [8,6,6],gQ 21 (.un .not Z20) (some (17,false)) [9,6],oQ 22 (.pick Z17 (.const (.bool true)) Z21) [6,10]]
def l86r3:List AOper :=
  [oQ 4 (.mv (.const (.bool false))) []]
def l86r4:List AOper :=
  [oQ 23 (.fld 4 Z5) [],oQ 24 (.load false 1 Z23) [0],oQ 25 (.un .not Z24) [1],oQ 26 (.mv Z25) [2],gQ 27 (.fld 1 Z5) (some (26,false)) [3],gQ 28 (.load true 3 Z27) (some (26,false)) [4,3],gQ 29 (.fld 0 Z2) (some (26,false)) [3],gQ 30 (.load false 1 Z29) (some (26,false)) [6,3],gQ 31 (.len Z30) (some (26,false)) [7,3],gQ 32 (.call 73 [Z28,Z31]) (some (26,false)) [5,8,3,3],gQ 33 (.mv Z32) (some (26,false)) [9,9,3],gQ 34 (.fld 0 Z5) (some (33,true)) [10],gQ 35 (.load false 1 Z34) (some (33,true)) [11,10],gQ 36 (.bin .lss Z35 (.const (.int .i64 0))) (some (33,true)) [12,10],gQ 37 (.mv Z36) (some (33,true)) [13,10,10],gQ 38 (.fld 1 Z2) (some (37,false)) [14],gQ 39 (.load false 1 Z38) (some (37,false)) [15,14],gQ 40 (.fld 0 Z5) (some (37,false)) [14],gQ 41 (.load false 1 Z40) (some (37,false)) [17,14],gQ 42 (.idxA 5 Z39 Z41) (some (37,false)) [16,18,14],gQ 43 (.fld 4 Z42) (some (37,false)) [19,14],gQ 44 (.load false 1 Z43) (some (37,false)) [20,14],gQ 45 (.pick Z37 (.const (.bool true)) Z44) (some (33,true)) [14,21,10],gQ 46 (.pick Z33 Z45 (.const (.bool false))) (some (26,false)) [10,22,3],oQ 47 (.pick Z26 (.const (.bool true)) Z46) [3,23],oQ 4 (.mv Z47) [24,14,0,1,2,3,4,5,6,7,8,9,10,11,12,13,14,15,16,17,18,19,20,21,22,23,24]]
def l86:AFn :=
  (AFn.mk 48 2 (.seq (.reg l86r0) (.seq (.reg l86r1) (.seq (.seq (.reg l86r2) (.cond (.tmp 22) (.seq (.reg l86r3) .ret) .skip)) (.seq (.reg l86r4) .ret)))) [.tmp 4])
theorem l86_eq:lowFn Tryz.prog 86=some l86:=by kernel_rfl
def l87r0:List AOper :=
  [oQ 2 (.mv (.const (.bool false))) []]
def l87r1:List AOper :=
  [oQ 3 (.mv Z0) [],oQ 4 (.len Z3) [0],oQ 5 (.bin .leq Z4 (.const (.int .i64 60))) [1],oQ 6 (.mv Z5) [2],gQ 7 (.mv Z0) (some (6,true)) [3],gQ 8 (.call 112 [Z7,.const (.int .i64 0),.const (.int .i64 255)]) (some (6,true)) [4,3,3],oQ 9 (.pick Z6 Z8 (.const (.bool false))) [3,5],oQ 2 (.mv Z9) [6,5,0,1,2,3,4,5,6]]
def l87:AFn :=
  (AFn.mk 10 1 (.seq (.reg l87r0) (.seq (.reg l87r1) .ret)) [.tmp 2])
theorem l87_eq:lowFn Tryz.prog 87=some l87:=by kernel_rfl
def l88r0:List AOper :=
  [oQ 2 (.mv (.const (.slice none 0 0))) []]
def l88r1:List AOper :=
  [oQ 3 (.bslice 1 [.int .i64 0] [] 0) [],oQ 4 (.mv Z0) [],oQ 5 (.append 1 Z3 Z4) [0,1],oQ 2 (.mv Z5) [2,2,0,1,2]]
def l88:AFn :=
  (AFn.mk 6 1 (.seq (.reg l88r0) (.seq (.reg l88r1) .ret)) [.tmp 2])
theorem l88_eq:lowFn Tryz.prog 88=some l88:=by kernel_rfl
def l89r0:List AOper :=
  [oQ 1 (.box Z0) [],oQ 2 (.alloc [.int .i64 0,.slice none 0 0,.slice none 0 0]) []]
def l89r1a:List AOper :=
  [oQ 3 (.fld 0 Z1) [],oQ 4 (.load false 1 Z3) [0],oQ 5 (.fld 1 Z1) [],oQ 6 (.load false 1 Z5) [2],oQ 7 (.call 88 [Z6]) [3],oQ 8 (.fld 2 Z1) [],oQ 9 (.load false 1 Z8) [5],oQ 10 (.call 88 [Z9]) [6,4]]
def l89r1b:List AOper :=
  [oQ 11 (.build [.int .i64 0,.slice none 0 0,.slice none 0 0] [(0,1,Z4),(1,1,Z7),(2,1,Z10)]) [1,4,7],nQ (.store 3 Z2 Z11) [8,7,0,1,2,3,4,5,6,7,8]]
def l89r1:List AOper:=l89r1a ++ l89r1b
def l89:AFn :=
  (AFn.mk 12 1 (.seq (.reg l89r0) (.seq (.draw l89r1) .ret)) [.cell 2 true 3])
theorem l89_eq:lowFn Tryz.prog 89=some l89:=by kernel_rfl
def l90r0:List AOper :=
  [oQ 1 (.box Z0) [],oQ 2 (.mv (.const (.slice none 0 0))) []]
def l90r1:List AOper :=
  [oQ 5 (.bslice 1 [.int .i64 0] [] 0) [],oQ 3 (.mv Z5) [0,0]]
def l90r2:List AOper :=
  [oQ 4 (.mv (.const (.int .i64 0))) []]
def l90r3:List AOper :=
  [oQ 6 (.mv Z4) [],oQ 7 (.fld 1 Z1) [],oQ 8 (.load false 1 Z7) [1],oQ 9 (.call 113 [Z8]) [2],oQ 10 (.bin .lss Z6 Z9) [0,3]]
def l90r4a:List AOper :=
  [oQ 13 (.mv Z3) [],oQ 14 (.load true 3 Z1) [],oQ 15 (.fld 1 Z1) [],oQ 16 (.load false 1 Z15) [2],oQ 17 (.mv Z4) [],oQ 18 (.call 127 [Z16,Z17]) [3,4],oQ 19 (.call 126 [Z14,Z18]) [1,5,5],oQ 20 (.bslice 1 [.int .i64 0] [(0,Z19)] 1) [6]]
def l90r4b:List AOper :=
  [oQ 21 (.append 1 Z13 Z20) [0,7,6],oQ 3 (.mv Z21) [8,8,0,1,2,3,4,5,6,7,8]]
def l90r4:List AOper:=l90r4a ++ l90r4b
def l90r5:List AOper :=
  [oQ 11 (.mv Z4) [],oQ 12 (.bin .add Z11 (.const (.int .i64 1))) [0],oQ 4 (.mv Z12) [1,0,1]]
def l90r6:List AOper :=
  [oQ 22 (.mv Z3) [],oQ 2 (.mv Z22) [0,0]]
def l90:AFn :=
  (AFn.mk 23 1 (.seq (.reg l90r0) (.seq (.reg l90r1) (.seq (.seq (.reg l90r2) (.block 0 (.loop (.seq (.seq (.reg l90r3) (.cond (.tmp 10) .skip (.exit 0))) (.seq (.block 1 (.draw l90r4)) (.reg l90r5)))))) (.seq (.reg l90r6) .ret)))) [.tmp 2])
theorem l90_eq:lowFn Tryz.prog 90=some l90:=by kernel_rfl
def l91r0:List AOper :=
  [oQ 2 (.mv (.const (.bool false))) []]
def l91r1:List AOper :=
  [oQ 3 (.mv Z0) [],oQ 4 (.bin .leq (.const (.int .i64 0)) Z3) [0],oQ 5 (.mv Z4) [1],gQ 6 (.mv Z0) (some (5,true)) [2],gQ 7 (.bin .leq Z6 (.const (.int .i64 60))) (some (5,true)) [3,2],oQ 8 (.pick Z5 Z7 (.const (.bool false))) [2,4],oQ 2 (.mv Z8) [5,2,0,1,2,3,4,5]]
def l91:AFn :=
  (AFn.mk 9 1 (.seq (.reg l91r0) (.seq (.reg l91r1) .ret)) [.tmp 2])
theorem l91_eq:lowFn Tryz.prog 91=some l91:=by kernel_rfl
def l92r0:List AOper :=
  [oQ 2 (.mv (.const (.bool false))) []]
def l92r1:List AOper :=
  [oQ 5 (.mv Z0) [],oQ 6 (.len Z5) [0],oQ 7 (.mv (.const (.int .i64 0))) []]
def l92r2:List AOper :=
  [oQ 8 (.bin .lss Z7 Z6) []]
def l92r3:List AOper :=
  [oQ 9 (.idxA 1 Z5 Z7) [],oQ 10 (.load false 1 Z9) [0],oQ 4 (.mv Z10) [1,0,1]]
def l92r4:List AOper :=
  [oQ 11 (.mv Z4) [],oQ 12 (.call 80 [Z11,.const (.int .i64 255)]) [0],oQ 13 (.un .not Z12) [1]]
def l92r5:List AOper :=
  [oQ 2 (.mv (.const (.bool false))) []]
def l92r6:List AOper :=
  [oQ 14 (.bin .add Z7 (.const (.int .i64 1))) [],oQ 7 (.mv Z14) [0]]
def l92r7:List AOper :=
  [oQ 2 (.mv (.const (.bool true))) []]
def l92:AFn :=
  (AFn.mk 15 1 (.seq (.reg l92r0) (.seq (.seq (.reg l92r1) (.block 0 (.loop (.seq (.reg l92r2) (.seq (.cond (.tmp 8) .skip (.exit 0)) (.seq (.block 1 (.seq (.reg l92r3) (.seq (.reg l92r4) (.cond (.tmp 13) (.seq (.reg l92r5) .ret) .skip)))) (.reg l92r6))))))) (.seq (.reg l92r7) .ret))) [.tmp 2])
theorem l92_eq:lowFn Tryz.prog 92=some l92:=by kernel_rfl
def l97r0:List AOper :=
  [oQ 1 (.box Z0) [],oQ 2 (.mv (.const (.int .i64 0))) []]
def l97r1:List AOper :=
  [oQ 3 (.fld 1 Z1) [],oQ 4 (.load false 1 Z3) [0],oQ 5 (.call 129 [Z4]) [1],oQ 2 (.mv Z5) [2,2,0,1,2]]
def l97:AFn :=
  (AFn.mk 6 1 (.seq (.reg l97r0) (.seq (.reg l97r1) .ret)) [.tmp 2])
theorem l97_eq:lowFn Tryz.prog 97=some l97:=by kernel_rfl
def l98r0:List AOper :=
  [oQ 3 (.box Z1) [],oQ 4 (.mv (.const (.bool false))) []]
def l98r1:List AOper :=
  [oQ 5 (.mv Z0) [],oQ 6 (.call 87 [Z5]) [0],oQ 7 (.mv Z6) [1,1],gQ 8 (.load true 3 Z3) (some (7,true)) [2],gQ 9 (.call 72 [Z8]) (some (7,true)) [3,2,2],oQ 10 (.pick Z7 Z9 (.const (.bool false))) [2,4],oQ 11 (.mv Z10) [5,4],gQ 12 (.load true 3 Z3) (some (11,true)) [6],gQ 13 (.mv Z0) (some (11,true)) [6],gQ 14 (.len Z13) (some (11,true)) [8,6],gQ 15 (.call 73 [Z12,Z14]) (some (11,true)) [7,9,6,6],oQ 16 (.pick Z11 Z15 (.const (.bool false))) [6,10],oQ 4 (.mv Z16) [11,10,0,1,2,3,4,5,6,7,8,9,10,11]]
def l98:AFn :=
  (AFn.mk 17 2 (.seq (.reg l98r0) (.seq (.reg l98r1) .ret)) [.tmp 4])
theorem l98_eq:lowFn Tryz.prog 98=some l98:=by kernel_rfl
def l99r0:List AOper :=
  [oQ 2 (.mv (.const (.bool false))) []]
def l99r1:List AOper :=
  [oQ 5 (.mv Z0) [],oQ 6 (.len Z5) [0],oQ 7 (.bin .gtr Z6 (.const (.int .i64 4))) [1]]
def l99r2:List AOper :=
  [oQ 2 (.mv (.const (.bool false))) []]
def l99r3:List AOper :=
  [oQ 8 (.mv Z0) [],oQ 9 (.len Z8) [0],oQ 10 (.mv (.const (.int .i64 0))) []]
def l99r4:List AOper :=
  [oQ 11 (.bin .lss Z10 Z9) []]
def l99r5:List AOper :=
  [oQ 12 (.idxA 1 Z8 Z10) [],oQ 13 (.load false 1 Z12) [0],oQ 4 (.mv Z13) [1,0,1]]
def l99r6:List AOper :=
  [oQ 14 (.mv Z4) [],oQ 15 (.call 80 [Z14,.const (.int .i64 60)]) [0],oQ 16 (.un .not Z15) [1]]
def l99r7:List AOper :=
  [oQ 2 (.mv (.const (.bool false))) []]
def l99r8:List AOper :=
  [oQ 17 (.bin .add Z10 (.const (.int .i64 1))) [],oQ 10 (.mv Z17) [0]]
def l99r9:List AOper :=
  [oQ 18 (.mv Z0) [],oQ 19 (.call 129 [Z18]) [0],oQ 20 (.bin .leq Z19 (.const (.int .i64 60))) [1],oQ 2 (.mv Z20) [2,1,0,1,2]]
def l99:AFn :=
  (AFn.mk 21 1 (.seq (.reg l99r0) (.seq (.seq (.reg l99r1) (.cond (.tmp 7) (.seq (.reg l99r2) .ret) .skip)) (.seq (.seq (.reg l99r3) (.block 0 (.loop (.seq (.reg l99r4) (.seq (.cond (.tmp 11) .skip (.exit 0)) (.seq (.block 1 (.seq (.reg l99r5) (.seq (.reg l99r6) (.cond (.tmp 16) (.seq (.reg l99r7) .ret) .skip)))) (.reg l99r8))))))) (.seq (.reg l99r9) .ret)))) [.tmp 2])
theorem l99_eq:lowFn Tryz.prog 99=some l99:=by kernel_rfl
def l100r0:List AOper :=
  [oQ 4 (.mv (.const (.bool false))) []]
def l100r1:List AOper :=
  [oQ 7 (.mv Z0) [],oQ 8 (.len Z7) [0],oQ 9 (.mv Z1) [],oQ 10 (.bin .neq Z8 Z9) [1,2]]
def l100r2:List AOper :=
  [oQ 4 (.mv (.const (.bool false))) []]
def l100r3:List AOper :=
  [oQ 11 (.mv Z0) [],oQ 12 (.len Z11) [0],oQ 13 (.mv (.const (.int .i64 0))) []]
def l100r4:List AOper :=
  [oQ 14 (.bin .lss Z13 Z12) []]
def l100r5:List AOper :=
  [oQ 15 (.idxA 1 Z11 Z13) [],oQ 16 (.load false 1 Z15) [0],oQ 6 (.mv Z16) [1,0,1]]
def l100r6:List AOper :=
  [oQ 17 (.mv Z6) [],oQ 18 (.call 130 [Z17,.const (.int .i64 60)]) [0],oQ 19 (.un .not Z18) [1]]
def l100r7:List AOper :=
  [oQ 4 (.mv (.const (.bool false))) []]
def l100r8:List AOper :=
  [oQ 20 (.bin .add Z13 (.const (.int .i64 1))) [],oQ 13 (.mv Z20) [0]]
def l100r9:List AOper :=
  [oQ 4 (.mv (.const (.bool true))) []]
def l100:AFn :=
  (AFn.mk 21 2 (.seq (.reg l100r0) (.seq (.seq (.reg l100r1) (.cond (.tmp 10) (.seq (.reg l100r2) .ret) .skip)) (.seq (.seq (.reg l100r3) (.block 0 (.loop (.seq (.reg l100r4) (.seq (.cond (.tmp 14) .skip (.exit 0)) (.seq (.block 1 (.seq (.reg l100r5) (.seq (.reg l100r6) (.cond (.tmp 19) (.seq (.reg l100r7) .ret) .skip)))) (.reg l100r8))))))) (.seq (.reg l100r9) .ret)))) [.tmp 4])
theorem l100_eq:lowFn Tryz.prog 100=some l100:=by kernel_rfl
def l101r0:List AOper :=
  [oQ 1 (.box Z0) [],oQ 2 (.mv (.const (.int .i64 0))) [],oQ 3 (.mv (.const (.int .i64 0))) [1]]
def l101r1:List AOper :=
  [oQ 9 (.load true 3 Z1) [],oQ 10 (.call 97 [Z9]) [0],oQ 11 (.bin .eql Z10 (.const (.int .i64 0))) [1]]
def l101r2:List AOper :=
  [oQ 2 (.mv (.const (.int .i64 (-1)))) [],oQ 3 (.mv (.const (.int .i64 (-1)))) [0,0]]
def l101r3a:List AOper :=
  [oQ 12 (.fld 0 Z1) [],oQ 13 (.load false 1 Z12) [0],oQ 14 (.fld 0 Z1) [],oQ 15 (.load false 1 Z14) [2],oQ 4 (.mv Z13) [1,0,1]]
def l101r3b:List AOper :=
  [oQ 5 (.mv Z15) [3,4,0,1,2,3,4]]
def l101r3:List AOper:=l101r3a ++ l101r3b
def l101r4:List AOper :=
  [oQ 16 (.fld 2 Z1) [],oQ 17 (.load false 1 Z16) [0],oQ 18 (.len Z17) [1],oQ 19 (.mv (.const (.int .i64 0))) []]
def l101r5:List AOper :=
  [oQ 20 (.bin .lss Z19 Z18) []]
def l101r6:List AOper :=
  [oQ 21 (.mv Z19) [],oQ 22 (.idxA 1 Z17 Z19) [],oQ 23 (.load false 1 Z22) [1],oQ 6 (.mv Z21) [0,0,1,2],oQ 7 (.mv Z23) [2,3,0,1,2,3]]
def l101r7:List AOper :=
  [oQ 24 (.fld 1 Z1) [],oQ 25 (.load false 1 Z24) [0],oQ 26 (.mv Z6) [],oQ 27 (.idxA 1 Z25 Z26) [1,2],oQ 28 (.load false 1 Z27) [3],oQ 29 (.bin .sub Z28 (.const (.int .i64 1))) [4],oQ 30 (.mv Z7) [],oQ 31 (.bin .mul Z29 Z30) [5,6],oQ 8 (.mv Z31) [7,0,1,2,3,4,5,6,7]]
def l101r8:List AOper :=
  [oQ 32 (.mv Z4) [],oQ 33 (.mv Z8) [],oQ 34 (.minmax false Z33 (.const (.int .i64 0))) [1],oQ 35 (.bin .add Z32 Z34) [0,2],oQ 4 (.mv Z35) [3,0,1,2,3]]
def l101r9:List AOper :=
  [oQ 36 (.mv Z5) [],oQ 37 (.mv Z8) [],oQ 38 (.minmax true Z37 (.const (.int .i64 0))) [1],oQ 39 (.bin .add Z36 Z38) [0,2],oQ 5 (.mv Z39) [3,0,1,2,3]]
def l101r10:List AOper :=
  [oQ 40 (.bin .add Z19 (.const (.int .i64 1))) [],oQ 19 (.mv Z40) [0]]
def l101r11:List AOper :=
  [oQ 41 (.mv Z4) [],oQ 42 (.mv Z5) [],oQ 2 (.mv Z41) [0,0],oQ 3 (.mv Z42) [1,2,0,1,2]]
def l101:AFn :=
  (AFn.mk 43 1 (.seq (.reg l101r0) (.seq (.seq (.reg l101r1) (.cond (.tmp 11) (.seq (.reg l101r2) .ret) .skip)) (.seq (.draw l101r3) (.seq (.seq (.reg l101r4) (.block 0 (.loop (.seq (.reg l101r5) (.seq (.cond (.tmp 20) .skip (.exit 0)) (.seq (.block 1 (.seq (.reg l101r6) (.seq (.reg l101r7) (.seq (.reg l101r8) (.reg l101r9))))) (.reg l101r10))))))) (.seq (.reg l101r11) .ret))))) [.tmp 2,.tmp 3])
theorem l101_eq:lowFn Tryz.prog 101=some l101:=by kernel_rfl
def l102r0:List AOper :=
  [oQ 2 (.mv (.const (.map none))) []]
def l102r1:List AOper :=
  [oQ 6 (.raw (Op.makeMap 114 none)) [],oQ 3 (.mv Z6) [0,0]]
def l102r2:List AOper :=
  [oQ 7 (.mv Z0) [],oQ 8 (.len Z7) [0],oQ 9 (.mv (.const (.int .i64 0))) []]
def l102r3:List AOper :=
  [oQ 10 (.bin .lss Z9 Z8) []]
def l102r4:List AOper :=
  [oQ 11 (.idxA 3 Z7 Z9) [],oQ 12 (.load true 3 Z11) [0],oQ 5 (.alloc [.int .i64 0,.slice none 0 0,.slice none 0 0]) [],nQ (.store 3 Z5 Z12) [2,1,0,1,2]]
def l102r5:List AOper :=
  [oQ 13 (.mv Z3) [],oQ 14 (.load true 3 Z5) [],oQ 15 (.call 64 [Z14]) [1],oQ 16 (.call 125 [Z13,Z15]) [0,2,2]]
def l102r6:List AOper :=
  [oQ 17 (.bin .add Z9 (.const (.int .i64 1))) [],oQ 9 (.mv Z17) [0]]
def l102r7:List AOper :=
  [oQ 18 (.mv Z3) [],oQ 2 (.mv Z18) [0,0]]
def l102:AFn :=
  (AFn.mk 19 1 (.seq (.reg l102r0) (.seq (.reg l102r1) (.seq (.seq (.reg l102r2) (.block 0 (.loop (.seq (.reg l102r3) (.seq (.cond (.tmp 10) .skip (.exit 0)) (.seq (.block 1 (.seq (.reg l102r4) (.reg l102r5))) (.reg l102r6))))))) (.seq (.reg l102r7) .ret)))) [.tmp 2])
theorem l102_eq:lowFn Tryz.prog 102=some l102:=by kernel_rfl
def l103r0:List AOper :=
  [oQ 4 (.mv (.const (.slice none 0 0))) []]
def l103r1:List AOper :=
  [oQ 5 (.mv (.const (.slice none 0 0))) []]
def l103r2:List AOper :=
  [oQ 8 (.mv Z0) [],oQ 9 (.raw (Op.range 114 Z8)) [0]]
def l103r3:List AOper :=
  [oQ 10 (.raw (Op.next Z9 false)) [],oQ 11 (.extract Z10 0) [0]]
def l103r4:List AOper :=
  [oQ 12 (.raw (Op.entry Z9)) [],oQ 13 (.extract Z12 0) [0],oQ 14 (.extract Z12 1) [0],oQ 6 (.mv Z13) [1,0,1],oQ 7 (.mv Z14) [2,3,0,1,2,3]]
def l103r5:List AOper :=
  [oQ 15 (.mv Z7) [],oQ 16 (.mv Z1) [],oQ 17 (.bin .geq Z15 Z16) [0,1]]
def l103r6:List AOper :=
  [oQ 18 (.mv Z5) [],oQ 19 (.mv Z6) [],oQ 20 (.bslice 1 [.int .i64 0] [(0,Z19)] 1) [1],oQ 21 (.append 1 Z18 Z20) [0,2],oQ 5 (.mv Z21) [3,3,0,1,2,3]]
def l103r7:List AOper :=
  [oQ 22 (.mv Z5) [],oQ 23 (.call 131 [Z22]) [0]]
def l103r8:List AOper :=
  [oQ 24 (.mv Z5) [],oQ 4 (.mv Z24) [0,0]]
def l103:AFn :=
  (AFn.mk 25 2 (.seq (.reg l103r0) (.seq (.reg l103r1) (.seq (.seq (.reg l103r2) (.block 0 (.loop (.seq (.reg l103r3) (.seq (.cond (.tmp 11) .skip (.exit 0)) (.block 1 (.seq (.reg l103r4) (.seq (.reg l103r5) (.cond (.tmp 17) (.reg l103r6) .skip))))))))) (.seq (.reg l103r7) (.seq (.reg l103r8) .ret))))) [.tmp 4])
theorem l103_eq:lowFn Tryz.prog 103=some l103:=by kernel_rfl
def l104r0:List AOper :=
  [oQ 2 (.box Z0) [],oQ 3 (.box Z1) [],oQ 4 (.mv (.const (.int .i64 0))) []]
def l104r1a:List AOper :=
  [oQ 5 (.fld 0 Z2) [],oQ 6 (.load false 1 Z5) [0],oQ 7 (.load true 4 Z3) [],oQ 8 (.fld 2 Z2) [],oQ 9 (.load false 1 Z8) [3],oQ 10 (.call 132 [Z7,Z9]) [2,4]]
def l104r1b:List AOper :=
  [oQ 11 (.bin .add Z6 Z10) [1,5],oQ 4 (.mv Z11) [6,5,0,1,2,3,4,5,6]]
def l104r1:List AOper:=l104r1a ++ l104r1b
def l104:AFn :=
  (AFn.mk 12 2 (.seq (.reg l104r0) (.seq (.draw l104r1) .ret)) [.tmp 4])
theorem l104_eq:lowFn Tryz.prog 104=some l104:=by kernel_rfl
def l105r0:List AOper :=
  [oQ 4 (.alloc [.int .i64 0,.int .i64 0,.int .i64 0,.int .i64 0]) []]
def l105r1:List AOper :=
  [oQ 5 (.alloc [.int .i64 0,.int .i64 0,.int .i64 0,.int .i64 0]) []]
def l105r2:List AOper :=
  [oQ 7 (.mv Z0) [],oQ 8 (.len Z7) [0],oQ 9 (.bin .sub Z8 (.const (.int .i64 1))) [1],oQ 6 (.mv Z9) [2,0,1,2]]
def l105r3:List AOper :=
  [oQ 10 (.mv Z6) [],oQ 11 (.bin .geq Z10 (.const (.int .i64 0))) [0]]
def l105r4:List AOper :=
  [oQ 14 (.mv Z6) [],oQ 15 (.mv Z1) [],oQ 16 (.mv Z0) [],oQ 17 (.mv Z6) [],oQ 18 (.idxA 1 Z16 Z17) [2,3],oQ 19 (.load false 1 Z18) [4],oQ 20 (.bin .rem Z15 Z19) [1,5],oQ 21 (.idxP 1 4 Z5 Z14) [0,0,1,2,3,4,5,6],nQ (.store 1 Z21 Z20) [7,6,0,1,2,3,4,5,6]]
def l105r5:List AOper :=
  [oQ 22 (.mv Z1) [],oQ 23 (.mv Z0) [],oQ 24 (.mv Z6) [],oQ 25 (.idxA 1 Z23 Z24) [1,2],oQ 26 (.load false 1 Z25) [3],oQ 27 (.bin .quo Z22 Z26) [0,4],oQ 1 (.mv Z27) [5,0,1,2,3,4,5]]
def l105r6:List AOper :=
  [oQ 12 (.mv Z6) [],oQ 13 (.bin .sub Z12 (.const (.int .i64 1))) [0],oQ 6 (.mv Z13) [1,0,1]]
def l105r7:List AOper :=
  [oQ 28 (.load true 4 Z5) [],nQ (.store 4 Z4 Z28) [0,0]]
def l105:AFn :=
  (AFn.mk 29 2 (.seq (.reg l105r0) (.seq (.reg l105r1) (.seq (.seq (.reg l105r2) (.block 0 (.loop (.seq (.seq (.reg l105r3) (.cond (.tmp 11) .skip (.exit 0))) (.seq (.block 1 (.seq (.reg l105r4) (.reg l105r5))) (.reg l105r6)))))) (.seq (.reg l105r7) .ret)))) [.cell 4 true 4])
theorem l105_eq:lowFn Tryz.prog 105=some l105:=by kernel_rfl
def l107r0:List AOper :=
  [oQ 4 (.box Z1) [],oQ 5 (.box Z2) [],oQ 6 (.mv (.const (.bool false))) []]
def l107r1:List AOper :=
  [oQ 7 (.mv Z0) [],oQ 8 (.load true 3 Z4) [],oQ 9 (.call 98 [Z7,Z8]) [0,1],oQ 10 (.mv Z9) [2,2],gQ 11 (.mv Z0) (some (10,true)) [3],gQ 12 (.load true 3 Z5) (some (10,true)) [3],gQ 13 (.call 98 [Z11,Z12]) (some (10,true)) [4,5,3,3],oQ 14 (.pick Z10 Z13 (.const (.bool false))) [3,6],oQ 15 (.mv Z14) [7,6],gQ 16 (.fld 1 Z4) (some (15,true)) [8],gQ 17 (.load false 1 Z16) (some (15,true)) [9,8],gQ 18 (.fld 1 Z5) (some (15,true)) [8],gQ 19 (.load false 1 Z18) (some (15,true)) [11,8],gQ 20 (.call 133 [Z17,Z19]) (some (15,true)) [10,12,8,8],oQ 21 (.pick Z15 Z20 (.const (.bool false))) [8,13],oQ 6 (.mv Z21) [14,13,0,1,2,3,4,5,6,7,8,9,10,11,12,13,14]]
def l107:AFn :=
  (AFn.mk 22 3 (.seq (.reg l107r0) (.seq (.reg l107r1) .ret)) [.tmp 6])
theorem l107_eq:lowFn Tryz.prog 107=some l107:=by kernel_rfl
def l108r0:List AOper :=
  [oQ 4 (.box Z1) [],oQ 6 (.mv (.const (.slice none 0 0))) []]
def l108r1:List AOper :=
  [oQ 10 (.mv Z0) [],oQ 11 (.call 88 [Z10]) [0],oQ 7 (.mv Z11) [1,1,0,1]]
def l108r2:List AOper :=
  [oQ 12 (.load true 3 Z4) [],oQ 13 (.call 90 [Z12]) [0],oQ 8 (.mv Z13) [1,1,0,1]]
def l108r3:List AOper :=
  [oQ 9 (.mv (.const (.int .i64 0))) []]
def l108r4:List AOper :=
  [oQ 14 (.mv Z9) [],oQ 15 (.mv Z8) [],oQ 16 (.len Z15) [1],oQ 17 (.bin .lss Z14 Z16) [0,2]]
def l108r5a:List AOper :=
  [oQ 20 (.mv Z7) [],oQ 21 (.mv Z8) [],oQ 22 (.mv Z9) [],oQ 23 (.idxA 1 Z21 Z22) [1,2],oQ 24 (.load false 1 Z23) [3],oQ 25 (.mv Z2) [],oQ 26 (.mv Z9) [],oQ 27 (.idxA 1 Z25 Z26) [5,6],oQ 28 (.load false 1 Z27) [7]]
def l108r5b:List AOper :=
  [oQ 29 (.idxA 1 Z20 Z24) [0,4,0,1,2,3,4,5,6,7,8],nQ (.store 1 Z29 Z28) [9,8,0,1,2,3,4,5,6,7,8]]
def l108r5:List AOper:=l108r5a ++ l108r5b
def l108r6:List AOper :=
  [oQ 18 (.mv Z9) [],oQ 19 (.bin .add Z18 (.const (.int .i64 1))) [0],oQ 9 (.mv Z19) [1,0,1]]
def l108r7:List AOper :=
  [oQ 30 (.mv Z7) [],oQ 6 (.mv Z30) [0,0]]
def l108:AFn :=
  (AFn.mk 31 3 (.seq (.reg l108r0) (.seq (.reg l108r1) (.seq (.reg l108r2) (.seq (.seq (.reg l108r3) (.block 0 (.loop (.seq (.seq (.reg l108r4) (.cond (.tmp 17) .skip (.exit 0))) (.seq (.block 1 (.draw l108r5)) (.reg l108r6)))))) (.seq (.reg l108r7) .ret))))) [.tmp 6])
theorem l108_eq:lowFn Tryz.prog 108=some l108:=by kernel_rfl
def l109r0:List AOper :=
  [oQ 2 (.alloc [.slice none 0 0,.slice none 0 0]) []]
def l109r1:List AOper :=
  [oQ 5 (.mv Z0) [],oQ 6 (.bslice 1 [.int .i64 0] [(0,.const (.int .i64 12)),(1,.const (.int .i64 20)),(2,.const (.int .i64 16)),(3,.const (.int .i64 8)),(4,.const (.int .i64 0))] 5) [],oQ 7 (.call 57 [Z5,Z6]) [0,1],oQ 8 (.call 134 [Z7]) [2,2],oQ 3 (.alloc [.slice none 0 0,.slice none 0 0]) [],nQ (.store 2 Z3 Z8) [4,3,3,0,1,2,3,4]]
def l109r2:List AOper :=
  [oQ 9 (.mv Z0) [],oQ 10 (.bslice 1 [.int .i64 0] [(0,.const (.int .i64 5)),(1,.const (.int .i64 4)),(2,.const (.int .i64 6)),(3,.const (.int .i64 3)),(4,.const (.int .i64 8)),(5,.const (.int .i64 0))] 6) [],oQ 11 (.call 57 [Z9,Z10]) [0,1],oQ 4 (.mv Z11) [2,2,0,1,2]]
def l109r3:List AOper :=
  [oQ 12 (.mv Z4) [],oQ 13 (.bin .gtr Z12 (.const (.int .i64 0))) [0]]
def l109r4a:List AOper :=
  [oQ 17 (.load true 2 Z3) [],oQ 18 (.mv Z0) [],oQ 19 (.load true 2 Z3) [],oQ 20 (.call 136 [Z18,Z19]) [1,2],oQ 21 (.call 135 [Z17,Z20]) [0,3,3],oQ 16 (.mv Z21) [4],oQ 22 (.extract Z16 0) [5],oQ 23 (.extract Z16 1) [5],nQ (.store 2 Z3 Z22) [6,4,0,1,2,3,4,5,6]]
def l109r4b:List AOper :=
  []
def l109r4:List AOper:=l109r4a ++ l109r4b
def l109r5:List AOper :=
  [oQ 14 (.mv Z4) [],oQ 15 (.bin .sub Z14 (.const (.int .i64 1))) [0],oQ 4 (.mv Z15) [1,0,1]]
def l109r6:List AOper :=
  [oQ 24 (.load true 2 Z3) [],nQ (.store 2 Z2 Z24) [0,0]]
def l109:AFn :=
  (AFn.mk 25 1 (.seq (.reg l109r0) (.seq (.reg l109r1) (.seq (.seq (.reg l109r2) (.block 0 (.loop (.seq (.seq (.reg l109r3) (.cond (.tmp 13) .skip (.exit 0))) (.seq (.block 1 (.draw l109r4)) (.reg l109r5)))))) (.seq (.reg l109r6) .ret)))) [.cell 2 true 2])
theorem l109_eq:lowFn Tryz.prog 109=some l109:=by kernel_rfl
def l111r0:List AOper :=
  [oQ 2 (.mv (.const (.bool false))) []]
def l111r1:List AOper :=
  [oQ 3 (.mv Z0) [],oQ 4 (.len Z3) [0],oQ 5 (.bin .leq Z4 (.const (.int .i64 4))) [1],oQ 6 (.mv Z5) [2],gQ 7 (.mv Z0) (some (6,true)) [3],gQ 8 (.call 112 [Z7,.const (.int .i64 0),.const (.int .i64 60)]) (some (6,true)) [4,3,3],oQ 9 (.pick Z6 Z8 (.const (.bool false))) [3,5],oQ 10 (.mv Z9) [6,5],gQ 11 (.mv Z0) (some (10,true)) [7],gQ 12 (.call 113 [Z11]) (some (10,true)) [8,7,7],gQ 13 (.bin .leq Z12 (.const (.int .i64 60))) (some (10,true)) [9,7],oQ 14 (.pick Z10 Z13 (.const (.bool false))) [7,10],oQ 2 (.mv Z14) [11,9,0,1,2,3,4,5,6,7,8,9,10,11]]
def l111:AFn :=
  (AFn.mk 15 1 (.seq (.reg l111r0) (.seq (.reg l111r1) .ret)) [.tmp 2])
theorem l111_eq:lowFn Tryz.prog 111=some l111:=by kernel_rfl
def l112r0:List AOper :=
  [oQ 6 (.mv (.const (.bool false))) []]
def l112r1:List AOper :=
  [oQ 7 (.mv (.const (.int .i64 0))) []]
def l112r2:List AOper :=
  [oQ 8 (.mv Z7) [],oQ 9 (.mv Z0) [],oQ 10 (.len Z9) [1],oQ 11 (.bin .lss Z8 Z10) [0,2]]
def l112r3:List AOper :=
  [oQ 14 (.mv Z0) [],oQ 15 (.mv Z7) [],oQ 16 (.idxA 1 Z14 Z15) [0,1],oQ 17 (.load false 1 Z16) [2],oQ 18 (.mv Z1) [],oQ 19 (.mv Z2) [],oQ 20 (.call 60 [Z17,Z18,Z19]) [3,4,5],oQ 21 (.un .not Z20) [6]]
def l112r4:List AOper :=
  [oQ 6 (.mv (.const (.bool false))) []]
def l112r5:List AOper :=
  [oQ 12 (.mv Z7) [],oQ 13 (.bin .add Z12 (.const (.int .i64 1))) [0],oQ 7 (.mv Z13) [1,0,1]]
def l112r6:List AOper :=
  [oQ 6 (.mv (.const (.bool true))) []]
def l112:AFn :=
  (AFn.mk 22 3 (.seq (.reg l112r0) (.seq (.seq (.reg l112r1) (.block 0 (.loop (.seq (.seq (.reg l112r2) (.cond (.tmp 11) .skip (.exit 0))) (.seq (.block 1 (.seq (.reg l112r3) (.cond (.tmp 21) (.seq (.reg l112r4) .ret) .skip))) (.reg l112r5)))))) (.seq (.reg l112r6) .ret))) [.tmp 6])
theorem l112_eq:lowFn Tryz.prog 112=some l112:=by kernel_rfl
def l113r0:List AOper :=
  [oQ 2 (.mv (.const (.int .i64 0))) []]
def l113r1:List AOper :=
  [oQ 3 (.mv (.const (.int .i64 1))) []]
def l113r2:List AOper :=
  [oQ 4 (.mv (.const (.int .i64 0))) []]
def l113r3:List AOper :=
  [oQ 5 (.mv Z4) [],oQ 6 (.mv Z0) [],oQ 7 (.len Z6) [1],oQ 8 (.bin .lss Z5 Z7) [0,2]]
def l113r4:List AOper :=
  [oQ 11 (.mv Z3) [],oQ 12 (.mv Z0) [],oQ 13 (.mv Z4) [],oQ 14 (.idxA 1 Z12 Z13) [1,2],oQ 15 (.load false 1 Z14) [3],oQ 16 (.bin .mul Z11 Z15) [0,4],oQ 3 (.mv Z16) [5,0,1,2,3,4,5]]
def l113r5:List AOper :=
  [oQ 9 (.mv Z4) [],oQ 10 (.bin .add Z9 (.const (.int .i64 1))) [0],oQ 4 (.mv Z10) [1,0,1]]
def l113r6:List AOper :=
  [oQ 17 (.mv Z3) [],oQ 2 (.mv Z17) [0,0]]
def l113:AFn :=
  (AFn.mk 18 1 (.seq (.reg l113r0) (.seq (.reg l113r1) (.seq (.seq (.reg l113r2) (.block 0 (.loop (.seq (.seq (.reg l113r3) (.cond (.tmp 8) .skip (.exit 0))) (.seq (.block 1 (.reg l113r4)) (.reg l113r5)))))) (.seq (.reg l113r6) .ret)))) [.tmp 2])
theorem l113_eq:lowFn Tryz.prog 113=some l113:=by kernel_rfl
def l114r0:List AOper :=
  [oQ 2 (.box Z0) [],oQ 4 (.mv (.const (.bool false))) []]
def l114r1:List AOper :=
  [oQ 5 (.load true 3 Z2) [],oQ 6 (.call 62 [Z5]) [0],oQ 7 (.mv Z6) [1,1],gQ 8 (.mv Z1) (some (7,true)) [2],gQ 9 (.fld 1 Z2) (some (7,true)) [2],gQ 10 (.load false 1 Z9) (some (7,true)) [4,2],gQ 11 (.len Z10) (some (7,true)) [5,2],gQ 12 (.bin .sub Z11 (.const (.int .i64 1))) (some (7,true)) [6,2],gQ 13 (.call 80 [Z8,Z12]) (some (7,true)) [3,7,2,2],oQ 14 (.pick Z7 Z13 (.const (.bool false))) [2,8],oQ 4 (.mv Z14) [9,8,0,1,2,3,4,5,6,7,8,9]]
def l114:AFn :=
  (AFn.mk 15 2 (.seq (.reg l114r0) (.seq (.reg l114r1) .ret)) [.tmp 4])
theorem l114_eq:lowFn Tryz.prog 114=some l114:=by kernel_rfl
def l115r0:List AOper :=
  [oQ 1 (.box Z0) [],oQ 2 (.mv (.const (.bool false))) []]
def l115r1:List AOper :=
  [oQ 3 (.fld 0 Z1) [],oQ 4 (.load false 1 Z3) [0],oQ 5 (.fld 3 Z1) [],oQ 6 (.load false 1 Z5) [2],oQ 7 (.call 145 [Z4,Z6]) [1,3],oQ 8 (.mv Z7) [4,4],gQ 9 (.fld 1 Z1) (some (8,true)) [5],gQ 10 (.load false 1 Z9) (some (8,true)) [6,5],gQ 11 (.fld 4 Z1) (some (8,true)) [5],gQ 12 (.load false 1 Z11) (some (8,true)) [8,5],gQ 13 (.call 145 [Z10,Z12]) (some (8,true)) [7,9,5,5],oQ 14 (.pick Z8 Z13 (.const (.bool false))) [5,10],oQ 15 (.mv Z14) [11,10],gQ 16 (.fld 2 Z1) (some (15,true)) [12],gQ 17 (.load false 1 Z16) (some (15,true)) [13,12],gQ 18 (.call 146 [Z17]) (some (15,true)) [14,12,12],oQ 19 (.pick Z15 Z18 (.const (.bool false))) [12,15],oQ 2 (.mv Z19) [16,15,0,1,2,3,4,5,6,7,8,9,10,11,12,13,14,15,16]]
def l115:AFn :=
  (AFn.mk 20 1 (.seq (.reg l115r0) (.seq (.reg l115r1) .ret)) [.tmp 2])
theorem l115_eq:lowFn Tryz.prog 115=some l115:=by kernel_rfl
def l116r0:List AOper :=
  [oQ 2 (.box Z0) [],oQ 4 (.alloc [.int .i64 0,.int .i64 0,.int .i64 0]) []]
def l116r1:List AOper :=
  [oQ 8 (.mv Z1) [],oQ 5 (.mv (.const (.int .i64 0))) [],oQ 6 (.mv Z8) [0,1,0,1]]
def l116r2:List AOper :=
  [oQ 9 (.mv Z5) [],oQ 10 (.mv Z6) [],oQ 11 (.fld 2 Z2) [],oQ 12 (.load false 1 Z11) [2],oQ 13 (.build [.int .i64 0,.int .i64 0,.int .i64 0] [(0,1,Z9),(1,1,Z10),(2,1,Z12)]) [0,1,3],oQ 7 (.alloc [.int .i64 0,.int .i64 0,.int .i64 0]) [],nQ (.store 3 Z7 Z13) [5,4,0,1,2,3,4,5]]
def l116r3:List AOper :=
  [oQ 14 (.fld 2 Z2) [],oQ 15 (.load false 1 Z14) [0],oQ 16 (.bin .lss Z15 (.const (.int .i64 0))) [1]]
def l116r4:List AOper :=
  [oQ 17 (.mv Z1) [],oQ 18 (.bin .sub Z17 (.const (.int .i64 1))) [0],oQ 5 (.mv (.const (.int .i64 (-1)))) [],oQ 6 (.mv Z18) [1,2,0,1,2]]
def l116r5:List AOper :=
  [oQ 19 (.mv Z6) [],oQ 20 (.mv Z5) [],oQ 21 (.fld 0 Z7) [0],nQ (.store 1 Z21 Z19) [2,0,0],oQ 22 (.fld 1 Z7) [0,1,2,3],nQ (.store 1 Z22 Z20) [4,1,3,0,1,2,3]]
def l116r6:List AOper :=
  [oQ 23 (.fld 3 Z2) [],oQ 24 (.load false 1 Z23) [0]]
def l116r7:List AOper :=
  [oQ 25 (.fld 0 Z2) [],oQ 26 (.load false 1 Z25) [0],oQ 27 (.mv Z1) [],oQ 28 (.mv Z5) [],oQ 29 (.mv Z6) [],oQ 30 (.call 147 [Z26,Z27,Z28,Z29]) [1,2,3,4],oQ 31 (.fld 0 Z7) [0,1,2,3,4,5],nQ (.store 1 Z31 Z30) [6,5,5,0,1,2,3,4,5]]
def l116r8:List AOper :=
  [oQ 32 (.fld 4 Z2) [],oQ 33 (.load false 1 Z32) [0]]
def l116r9:List AOper :=
  [oQ 34 (.fld 1 Z2) [],oQ 35 (.load false 1 Z34) [0],oQ 36 (.mv Z1) [],oQ 37 (.mv Z5) [],oQ 38 (.mv Z6) [],oQ 39 (.call 147 [Z35,Z36,Z37,Z38]) [1,2,3,4],oQ 40 (.fld 1 Z7) [0,1,2,3,4,5],nQ (.store 1 Z40 Z39) [6,5,5,0,1,2,3,4,5]]
def l116r10:List AOper :=
  [oQ 41 (.load true 3 Z7) [],nQ (.store 3 Z4 Z41) [0,0]]
def l116:AFn :=
  (AFn.mk 42 2 (.seq (.reg l116r0) (.seq (.reg l116r1) (.seq (.reg l116r2) (.seq (.seq (.reg l116r3) (.cond (.tmp 16) (.seq (.reg l116r4) (.reg l116r5)) .skip)) (.seq (.seq (.reg l116r6) (.cond (.tmp 24) (.reg l116r7) .skip)) (.seq (.seq (.reg l116r8) (.cond (.tmp 33) (.reg l116r9) .skip)) (.seq (.reg l116r10) .ret))))))) [.cell 4 true 3])
theorem l116_eq:lowFn Tryz.prog 116=some l116:=by kernel_rfl
def l117r0:List AOper :=
  [oQ 1 (.box Z0) [],oQ 2 (.alloc [.int .i64 0,.slice none 0 0,.slice none 0 0,.int .i64 0,.int .i64 0,.int .i64 0,.int .i64 0,.slice none 0 0]) []]
def l117r1:List AOper :=
  [oQ 6 (.load true 3 Z1) [],oQ 7 (.build [.int .i64 0,.slice none 0 0,.slice none 0 0,.int .i64 0,.int .i64 0,.int .i64 0,.int .i64 0,.slice none 0 0] [(0,3,Z6)]) [0],oQ 3 (.alloc [.int .i64 0,.slice none 0 0,.slice none 0 0,.int .i64 0,.int .i64 0,.int .i64 0,.int .i64 0,.slice none 0 0]) [],nQ (.store 8 Z3 Z7) [2,1,0,1,2]]
def l117r2:List AOper :=
  [oQ 8 (.fld 1 Z1) [],oQ 9 (.load false 1 Z8) [0],oQ 10 (.len Z9) [1],oQ 11 (.mv (.const (.int .i64 0))) []]
def l117r3:List AOper :=
  [oQ 12 (.bin .lss Z11 Z10) []]
def l117r4:List AOper :=
  [oQ 13 (.mv Z11) [],oQ 14 (.idxA 1 Z9 Z11) [],oQ 15 (.load false 1 Z14) [1],oQ 4 (.mv Z13) [0,0,1,2],oQ 5 (.mv Z15) [2,3,0,1,2,3]]
def l117r5a:List AOper :=
  [oQ 16 (.fld 7 Z3) [],oQ 17 (.load false 1 Z16) [0],oQ 18 (.mv Z5) [],oQ 19 (.fld 2 Z1) [],oQ 20 (.load false 1 Z19) [3],oQ 21 (.mv Z4) [],oQ 22 (.idxA 1 Z20 Z21) [4,5],oQ 23 (.load false 1 Z22) [6],oQ 24 (.build [.int .i64 0,.int .i64 0] [(0,1,Z18),(1,1,Z23)]) [2,7],oQ 25 (.bslice 2 [.int .i64 0,.int .i64 0] [(0,Z24)] 1) [8]]
def l117r5b:List AOper :=
  [oQ 26 (.append 2 Z17 Z25) [1,9],oQ 27 (.fld 7 Z3) [0,1,2,3,4,5,6,7,8,9,10],nQ (.store 1 Z27 Z26) [11,10,10,0,1,2,3,4,5,6,7,8,9,10]]
def l117r5:List AOper:=l117r5a ++ l117r5b
def l117r6:List AOper :=
  [oQ 28 (.bin .add Z11 (.const (.int .i64 1))) [],oQ 11 (.mv Z28) [0]]
def l117r7:List AOper :=
  [oQ 29 (.load true 8 Z3) [],nQ (.store 8 Z2 Z29) [0,0]]
def l117:AFn :=
  (AFn.mk 30 1 (.seq (.reg l117r0) (.seq (.reg l117r1) (.seq (.seq (.reg l117r2) (.block 0 (.loop (.seq (.reg l117r3) (.seq (.cond (.tmp 12) .skip (.exit 0)) (.seq (.block 1 (.seq (.reg l117r4) (.draw l117r5))) (.reg l117r6))))))) (.seq (.reg l117r7) .ret)))) [.cell 2 true 8])
theorem l117_eq:lowFn Tryz.prog 117=some l117:=by kernel_rfl
def l118r0:List AOper :=
  [oQ 4 (.alloc [.int .i64 0,.int .i64 0]) []]
def l118r1:List AOper :=
  [oQ 5 (.mv Z0) [],oQ 6 (.bin .lss Z5 (.const (.int .i64 2))) [0]]
def l118r2:List AOper :=
  [oQ 7 (.mv Z0) [],oQ 8 (.build [.int .i64 0,.int .i64 0] [(0,1,Z7)]) [0],nQ (.store 2 Z4 Z8) [1,0,1]]
def l118r3:List AOper :=
  [oQ 9 (.mv Z0) [],oQ 10 (.mv Z1) [],oQ 11 (.build [.int .i64 0,.int .i64 0] [(0,1,Z9),(1,1,Z10)]) [0,1],nQ (.store 2 Z4 Z11) [2,0,1,2]]
def l118:AFn :=
  (AFn.mk 12 2 (.seq (.reg l118r0) (.seq (.seq (.reg l118r1) (.cond (.tmp 6) (.seq (.reg l118r2) .ret) .skip)) (.seq (.reg l118r3) .ret))) [.cell 4 true 2])
theorem l118_eq:lowFn Tryz.prog 118=some l118:=by kernel_rfl
def l119r0:List AOper :=
  [oQ 1 (.box Z0) [],oQ 2 (.mv (.const (.int .i64 0))) []]
def l119r1a:List AOper :=
  [oQ 5 (.fld 1 Z1) [],oQ 6 (.load false 1 Z5) [0],oQ 7 (.fld 0 Z1) [],oQ 8 (.load false 1 Z7) [2],oQ 9 (.bin .sub Z6 Z8) [1,3],oQ 10 (.fld 2 Z1) [],oQ 11 (.load false 1 Z10) [5],oQ 3 (.mv Z9) [4,0,1,2,3,4]]
def l119r1b:List AOper :=
  [oQ 4 (.mv Z11) [6,7,0,1,2,3,4,5,6,7]]
def l119r1:List AOper:=l119r1a ++ l119r1b
def l119r2:List AOper :=
  [oQ 12 (.mv Z4) [],oQ 13 (.bin .lss Z12 (.const (.int .i64 0))) [0]]
def l119r3:List AOper :=
  [oQ 14 (.mv Z3) [],oQ 15 (.un .neg Z14) [0],oQ 16 (.mv Z4) [],oQ 17 (.un .neg Z16) [2],oQ 3 (.mv Z15) [1,0,1],oQ 4 (.mv Z17) [3,4,0,1,2,3,4]]
def l119r4:List AOper :=
  [oQ 18 (.mv Z3) [],oQ 19 (.bin .leq Z18 (.const (.int .i64 0))) [0]]
def l119r5:List AOper :=
  [oQ 2 (.mv (.const (.int .i64 0))) []]
def l119r6:List AOper :=
  [oQ 20 (.mv Z3) [],oQ 21 (.mv Z4) [],oQ 22 (.bin .add Z20 Z21) [0,1],oQ 23 (.bin .sub Z22 (.const (.int .i64 1))) [2],oQ 24 (.mv Z4) [],oQ 25 (.bin .quo Z23 Z24) [3,4],oQ 2 (.mv Z25) [5,0,1,2,3,4,5]]
def l119:AFn :=
  (AFn.mk 26 1 (.seq (.reg l119r0) (.seq (.draw l119r1) (.seq (.seq (.reg l119r2) (.cond (.tmp 13) (.reg l119r3) .skip)) (.seq (.seq (.reg l119r4) (.cond (.tmp 19) (.seq (.reg l119r5) .ret) .skip)) (.seq (.reg l119r6) .ret))))) [.tmp 2])
theorem l119_eq:lowFn Tryz.prog 119=some l119:=by kernel_rfl
def l120r0:List AOper :=
  [oQ 1 (.box Z0) [],oQ 2 (.alloc [.int .i64 0,.slice none 0 0,.slice none 0 0]) []]
def l120r1:List AOper :=
  [oQ 4 (.load true 8 Z1) [],oQ 5 (.call 148 [Z4]) [0],oQ 3 (.alloc [.int .i64 0,.slice none 0 0,.slice none 0 0]) [],nQ (.store 3 Z3 Z5) [2,1,1,0,1,2]]
def l120r2:List AOper :=
  [oQ 6 (.load true 3 Z3) [],oQ 7 (.call 97 [Z6]) [0],oQ 8 (.bin .eql Z7 (.const (.int .i64 0))) [1]]
def l120r3a:List AOper :=
  [oQ 9 (.fld 1 Z3) [],oQ 10 (.load false 1 Z9) [0],oQ 11 (.len Z10) [1],oQ 12 (.mkslice 1 [.int .i64 0] Z11 Z11) [2,2],oQ 13 (.fld 0 Z3) [0,1],nQ (.store 1 Z13 (.const (.int .i64 0))) [4,0,1]]
def l120r3b:List AOper :=
  [oQ 14 (.fld 2 Z3) [0,1,2,3,4,5],nQ (.store 1 Z14 Z12) [6,3,5,0,1,2,3,4,5]]
def l120r3:List AOper:=l120r3a ++ l120r3b
def l120r4:List AOper :=
  [oQ 15 (.load true 3 Z3) [],nQ (.store 3 Z2 Z15) [0,0]]
def l120:AFn :=
  (AFn.mk 16 1 (.seq (.reg l120r0) (.seq (.reg l120r1) (.seq (.seq (.reg l120r2) (.cond (.tmp 8) (.draw l120r3) .skip)) (.seq (.reg l120r4) .ret)))) [.cell 2 true 3])
theorem l120_eq:lowFn Tryz.prog 120=some l120:=by kernel_rfl
def l121r0:List AOper :=
  [oQ 2 (.box Z0) [],oQ 4 (.mv (.const (.bool false))) []]
def l121r1:List AOper :=
  [oQ 5 (.mv Z1) [],oQ 6 (.fld 1 Z2) [],oQ 7 (.load false 1 Z6) [1],oQ 8 (.len Z7) [2],oQ 9 (.bin .sub Z8 (.const (.int .i64 1))) [3],oQ 10 (.call 60 [Z5,.const (.int .i64 0),Z9]) [0,4],oQ 4 (.mv Z10) [5,5,0,1,2,3,4,5]]
def l121:AFn :=
  (AFn.mk 11 2 (.seq (.reg l121r0) (.seq (.reg l121r1) .ret)) [.tmp 4])
theorem l121_eq:lowFn Tryz.prog 121=some l121:=by kernel_rfl
def l122r0:List AOper :=
  [oQ 1 (.box Z0) [],oQ 2 (.mv (.const (.bool false))) []]
def l122r1:List AOper :=
  [oQ 3 (.fld 0 Z1) [],oQ 4 (.load false 1 Z3) [0],oQ 5 (.call 60 [Z4,.const (.int .i64 (-100)),.const (.int .i64 100)]) [1],oQ 6 (.mv Z5) [2,2],gQ 7 (.fld 1 Z1) (some (6,true)) [3],gQ 8 (.load false 1 Z7) (some (6,true)) [4,3],gQ 9 (.call 60 [Z8,.const (.int .i64 (-100)),.const (.int .i64 100)]) (some (6,true)) [5,3,3],oQ 10 (.pick Z6 Z9 (.const (.bool false))) [3,6],oQ 11 (.mv Z10) [7,6],gQ 12 (.fld 2 Z1) (some (11,true)) [8],gQ 13 (.load false 1 Z12) (some (11,true)) [9,8],gQ 14 (.call 60 [Z13,.const (.int .i64 (-200)),.const (.int .i64 200)]) (some (11,true)) [10,8,8],oQ 15 (.pick Z11 Z14 (.const (.bool false))) [8,11],oQ 16 (.mv Z15) [12,11],gQ 17 (.fld 2 Z1) (some (16,true)) [13],gQ 18 (.load false 1 Z17) (some (16,true)) [14,13],gQ 19 (.bin .neq Z18 (.const (.int .i64 0))) (some (16,true)) [15,13],oQ 20 (.pick Z16 Z19 (.const (.bool false))) [13,16],oQ 21 (.mv Z20) [17,13],gQ 22 (.fld 3 Z1) (some (21,true)) [18],gQ 23 (.load false 1 Z22) (some (21,true)) [19,18],gQ 24 (.mv Z23) (some (21,true)) [20,18,18],gQ 25 (.fld 0 Z1) (some (24,false)) [21],gQ 26 (.load false 1 Z25) (some (24,false)) [22,21],gQ 27 (.bin .eql Z26 (.const (.int .i64 0))) (some (24,false)) [23,21],gQ 28 (.pick Z24 (.const (.bool true)) Z27) (some (21,true)) [21,24,18],oQ 29 (.pick Z21 Z28 (.const (.bool false))) [18,25],oQ 30 (.mv Z29) [26,21],gQ 31 (.fld 4 Z1) (some (30,true)) [27],gQ 32 (.load false 1 Z31) (some (30,true)) [28,27],gQ 33 (.mv Z32) (some (30,true)) [29,27,27],gQ 34 (.fld 1 Z1) (some (33,false)) [30],gQ 35 (.load false 1 Z34) (some (33,false)) [31,30],gQ 36 (.bin .eql Z35 (.const (.int .i64 0))) (some (33,false)) [32,30],gQ 37 (.pick Z33 (.const (.bool true)) Z36) (some (30,true)) [30,33,27],oQ 38 (.pick Z30 Z37 (.const (.bool false))) [27,34],oQ 2 (.mv Z38) [35,30,0,1,2,3,4,5,6,7,8,9,10,11,12,13,14,15,16,17,18,19,20,21,22,23,24,25,26,27,28,29,30,31,32,33,34,35]]
def l122:AFn :=
  (AFn.mk 39 1 (.seq (.reg l122r0) (.seq (.reg l122r1) .ret)) [.tmp 2])
theorem l122_eq:lowFn Tryz.prog 122=some l122:=by kernel_rfl
def l123r0:List AOper :=
  [oQ 1 (.box Z0) [],oQ 2 (.alloc [.int .i64 0,.slice none 0 0,.slice none 0 0]) [],oQ 3 (.mv (.const (.bool false))) []]
def l123r1:List AOper :=
  [oQ 4 (.load true 3 Z1) [],oQ 5 (.call 72 [Z4]) [0],oQ 6 (.un .not Z5) [1]]
def l123r2:List AOper :=
  [oQ 7 (.build [.int .i64 0,.slice none 0 0,.slice none 0 0] []) [],nQ (.store 3 Z2 Z7) [0,0],oQ 3 (.mv (.const (.bool false))) [1,0,1]]
def l123r3:List AOper :=
  [oQ 8 (.load true 3 Z1) [],oQ 9 (.call 89 [Z8]) [0],nQ (.store 3 Z2 Z9) [1,1,0,1],oQ 3 (.mv (.const (.bool true))) [2,0,1,2]]
def l123:AFn :=
  (AFn.mk 10 1 (.seq (.reg l123r0) (.seq (.seq (.reg l123r1) (.cond (.tmp 6) (.seq (.reg l123r2) .ret) .skip)) (.seq (.reg l123r3) .ret))) [.cell 2 true 3,.tmp 3])
theorem l123_eq:lowFn Tryz.prog 123=some l123:=by kernel_rfl
def l124r0:List AOper :=
  [oQ 3 (.box Z0) [],oQ 5 (.box Z2) [],oQ 6 (.alloc [.int .i64 0,.slice none 0 0,.slice none 0 0]) []]
def l124r1:List AOper :=
  [oQ 10 (.load true 3 Z3) [],oQ 11 (.call 89 [Z10]) [0],oQ 7 (.alloc [.int .i64 0,.slice none 0 0,.slice none 0 0]) [],nQ (.store 3 Z7 Z11) [2,1,1,0,1,2]]
def l124r2a:List AOper :=
  [oQ 12 (.fld 1 Z3) [],oQ 13 (.load false 1 Z12) [0],oQ 14 (.mv Z1) [],oQ 15 (.idxA 1 Z13 Z14) [1,2],oQ 16 (.load false 1 Z15) [3],oQ 17 (.load true 5 Z5) [],oQ 18 (.call 150 [Z16,Z17]) [4,5],oQ 19 (.call 149 [Z18]) [6,6],oQ 8 (.alloc [.int .i64 0,.int .i64 0,.int .i64 0]) []]
def l124r2b:List AOper :=
  [nQ (.store 3 Z8 Z19) [8,7,7,0,1,2,3,4,5,6,7,8]]
def l124r2:List AOper:=l124r2a ++ l124r2b
def l124r3:List AOper :=
  [oQ 20 (.load true 3 Z8) [],oQ 21 (.call 151 [Z20]) [0],oQ 9 (.mv Z21) [1,1,0,1]]
def l124r4:List AOper :=
  [oQ 22 (.fld 1 Z7) [],oQ 23 (.load false 1 Z22) [0],oQ 24 (.mv Z1) [],oQ 25 (.mv Z9) [],oQ 26 (.len Z25) [3],oQ 27 (.idxA 1 Z23 Z24) [1,2,0,1,2,3,4],nQ (.store 1 Z27 Z26) [5,4,0,1,2,3,4]]
def l124r5a:List AOper :=
  [oQ 28 (.fld 0 Z3) [],oQ 29 (.load false 1 Z28) [0],oQ 30 (.fld 0 Z8) [],oQ 31 (.load false 1 Z30) [2],oQ 32 (.fld 2 Z3) [],oQ 33 (.load false 1 Z32) [4],oQ 34 (.mv Z1) [],oQ 35 (.idxA 1 Z33 Z34) [5,6],oQ 36 (.load false 1 Z35) [7],oQ 37 (.bin .mul Z31 Z36) [3,8]]
def l124r5b:List AOper :=
  [oQ 38 (.bin .add Z29 Z37) [1,9],oQ 39 (.fld 0 Z7) [0,1,2,3,4,5,6,7,8,9,10],nQ (.store 1 Z39 Z38) [11,10,0,1,2,3,4,5,6,7,8,9,10]]
def l124r5:List AOper:=l124r5a ++ l124r5b
def l124r6a:List AOper :=
  [oQ 40 (.fld 2 Z7) [],oQ 41 (.load false 1 Z40) [0],oQ 42 (.mv Z1) [],oQ 43 (.fld 2 Z8) [],oQ 44 (.load false 1 Z43) [3],oQ 45 (.fld 2 Z3) [],oQ 46 (.load false 1 Z45) [5],oQ 47 (.mv Z1) [],oQ 48 (.idxA 1 Z46 Z47) [6,7],oQ 49 (.load false 1 Z48) [8],oQ 50 (.bin .mul Z44 Z49) [4,9]]
def l124r6b:List AOper :=
  [oQ 51 (.idxA 1 Z41 Z42) [1,2,0,1,2,3,4,5,6,7,8,9,10],nQ (.store 1 Z51 Z50) [11,10,0,1,2,3,4,5,6,7,8,9,10]]
def l124r6:List AOper:=l124r6a ++ l124r6b
def l124r7:List AOper :=
  [oQ 52 (.mv Z9) [],oQ 53 (.len Z52) [0],oQ 54 (.bin .leq Z53 (.const (.int .i64 1))) [1]]
def l124r8:List AOper :=
  [oQ 55 (.fld 2 Z7) [],oQ 56 (.load false 1 Z55) [0],oQ 57 (.mv Z1) [],oQ 58 (.idxA 1 Z56 Z57) [1,2,0,1,2],nQ (.store 1 Z58 (.const (.int .i64 0))) [3,0,1,2]]
def l124r9:List AOper :=
  [oQ 59 (.load true 3 Z7) [],oQ 60 (.call 152 [Z59]) [0],nQ (.store 3 Z6 Z60) [1,1,0,1]]
def l124:AFn :=
  (AFn.mk 61 3 (.seq (.reg l124r0) (.seq (.reg l124r1) (.seq (.draw l124r2) (.seq (.reg l124r3) (.seq (.reg l124r4) (.seq (.draw l124r5) (.seq (.draw l124r6) (.seq (.seq (.reg l124r7) (.cond (.tmp 54) (.reg l124r8) .skip)) (.seq (.reg l124r9) .ret))))))))) [.cell 6 true 3])
theorem l124_eq:lowFn Tryz.prog 124=some l124:=by kernel_rfl
def l125r0:List AOper :=
  [oQ 6 (.mv Z1) [],oQ 7 (.len Z6) [0],oQ 8 (.mv (.const (.int .i64 0))) []]
def l125r1:List AOper :=
  [oQ 9 (.bin .lss Z8 Z7) []]
def l125r2:List AOper :=
  [oQ 10 (.idxA 1 Z6 Z8) [],oQ 11 (.load false 1 Z10) [0],oQ 5 (.mv Z11) [1,0,1]]
def l125r3:List AOper :=
  [oQ 12 (.mv Z0) [],oQ 13 (.mv Z5) [],oQ 14 (.raw (Op.lookup 114 Z12 Z13 false)) [0,1],oQ 15 (.bin .add Z14 (.const (.int .i64 1))) [2],nQ (.raw (Op.mapUpdate 114 Z12 Z13 Z15)) [0,1,3,0,1,2,3]]
def l125r4:List AOper :=
  [oQ 16 (.bin .add Z8 (.const (.int .i64 1))) [],oQ 8 (.mv Z16) [0]]
def l125:AFn :=
  (AFn.mk 17 2 (.seq (.reg l125r0) (.block 0 (.loop (.seq (.reg l125r1) (.seq (.cond (.tmp 9) .skip (.exit 0)) (.seq (.block 1 (.seq (.reg l125r2) (.reg l125r3))) (.reg l125r4))))))) [])
theorem l125_eq:lowFn Tryz.prog 125=some l125:=by kernel_rfl
def l126r0:List AOper :=
  [oQ 2 (.box Z0) [],oQ 4 (.mv (.const (.int .i64 0))) []]
def l126r1:List AOper :=
  [oQ 7 (.fld 0 Z2) [],oQ 8 (.load false 1 Z7) [0],oQ 5 (.mv Z8) [1,0,1]]
def l126r2:List AOper :=
  [oQ 6 (.mv (.const (.int .i64 0))) []]
def l126r3:List AOper :=
  [oQ 9 (.mv Z6) [],oQ 10 (.mv Z1) [],oQ 11 (.len Z10) [1],oQ 12 (.bin .lss Z9 Z11) [0,2]]
def l126r4a:List AOper :=
  [oQ 15 (.mv Z5) [],oQ 16 (.mv Z1) [],oQ 17 (.mv Z6) [],oQ 18 (.idxA 1 Z16 Z17) [1,2],oQ 19 (.load false 1 Z18) [3],oQ 20 (.fld 2 Z2) [],oQ 21 (.load false 1 Z20) [5],oQ 22 (.mv Z6) [],oQ 23 (.idxA 1 Z21 Z22) [6,7],oQ 24 (.load false 1 Z23) [8],oQ 25 (.bin .mul Z19 Z24) [4,9]]
def l126r4b:List AOper :=
  [oQ 26 (.bin .add Z15 Z25) [0,10],oQ 5 (.mv Z26) [11,0,1,2,3,4,5,6,7,8,9,10,11]]
def l126r4:List AOper:=l126r4a ++ l126r4b
def l126r5:List AOper :=
  [oQ 13 (.mv Z6) [],oQ 14 (.bin .add Z13 (.const (.int .i64 1))) [0],oQ 6 (.mv Z14) [1,0,1]]
def l126r6:List AOper :=
  [oQ 27 (.mv Z5) [],oQ 4 (.mv Z27) [0,0]]
def l126:AFn :=
  (AFn.mk 28 2 (.seq (.reg l126r0) (.seq (.reg l126r1) (.seq (.seq (.reg l126r2) (.block 0 (.loop (.seq (.seq (.reg l126r3) (.cond (.tmp 12) .skip (.exit 0))) (.seq (.block 1 (.draw l126r4)) (.reg l126r5)))))) (.seq (.reg l126r6) .ret)))) [.tmp 4])
theorem l126_eq:lowFn Tryz.prog 126=some l126:=by kernel_rfl
def l127r0:List AOper :=
  [oQ 4 (.mv (.const (.slice none 0 0))) []]
def l127r1:List AOper :=
  [oQ 7 (.mv Z0) [],oQ 8 (.len Z7) [0],oQ 9 (.mkslice 1 [.int .i64 0] Z8 Z8) [1,1],oQ 5 (.mv Z9) [2,0,1,2]]
def l127r2:List AOper :=
  [oQ 10 (.mv Z0) [],oQ 11 (.len Z10) [0],oQ 12 (.bin .sub Z11 (.const (.int .i64 1))) [1],oQ 6 (.mv Z12) [2,0,1,2]]
def l127r3:List AOper :=
  [oQ 13 (.mv Z6) [],oQ 14 (.bin .geq Z13 (.const (.int .i64 0))) [0]]
def l127r4:List AOper :=
  [oQ 17 (.mv Z5) [],oQ 18 (.mv Z6) [],oQ 19 (.mv Z1) [],oQ 20 (.mv Z0) [],oQ 21 (.mv Z6) [],oQ 22 (.idxA 1 Z20 Z21) [3,4],oQ 23 (.load false 1 Z22) [5],oQ 24 (.bin .rem Z19 Z23) [2,6],oQ 25 (.idxA 1 Z17 Z18) [0,1,0,1,2,3,4,5,6,7],nQ (.store 1 Z25 Z24) [8,7,0,1,2,3,4,5,6,7]]
def l127r5:List AOper :=
  [oQ 26 (.mv Z1) [],oQ 27 (.mv Z0) [],oQ 28 (.mv Z6) [],oQ 29 (.idxA 1 Z27 Z28) [1,2],oQ 30 (.load false 1 Z29) [3],oQ 31 (.bin .quo Z26 Z30) [0,4],oQ 1 (.mv Z31) [5,0,1,2,3,4,5]]
def l127r6:List AOper :=
  [oQ 15 (.mv Z6) [],oQ 16 (.bin .sub Z15 (.const (.int .i64 1))) [0],oQ 6 (.mv Z16) [1,0,1]]
def l127r7:List AOper :=
  [oQ 32 (.mv Z5) [],oQ 4 (.mv Z32) [0,0]]
def l127:AFn :=
  (AFn.mk 33 2 (.seq (.reg l127r0) (.seq (.reg l127r1) (.seq (.seq (.reg l127r2) (.block 0 (.loop (.seq (.seq (.reg l127r3) (.cond (.tmp 14) .skip (.exit 0))) (.seq (.block 1 (.seq (.reg l127r4) (.reg l127r5))) (.reg l127r6)))))) (.seq (.reg l127r7) .ret)))) [.tmp 4])
theorem l127_eq:lowFn Tryz.prog 127=some l127:=by kernel_rfl
def l129r0:List AOper :=
  [oQ 2 (.mv (.const (.int .i64 0))) []]
def l129r1:List AOper :=
  [oQ 3 (.mv (.const (.int .i64 1))) []]
def l129r2:List AOper :=
  [oQ 6 (.mv Z0) [],oQ 7 (.len Z6) [0],oQ 8 (.mv (.const (.int .i64 0))) []]
def l129r3:List AOper :=
  [oQ 9 (.bin .lss Z8 Z7) []]
def l129r4:List AOper :=
  [oQ 10 (.idxA 1 Z6 Z8) [],oQ 11 (.load false 1 Z10) [0],oQ 5 (.mv Z11) [1,0,1]]
def l129r5:List AOper :=
  [oQ 12 (.mv Z3) [],oQ 13 (.mv Z5) [],oQ 14 (.bin .mul Z12 Z13) [0,1],oQ 3 (.mv Z14) [2,0,1,2]]
def l129r6:List AOper :=
  [oQ 15 (.bin .add Z8 (.const (.int .i64 1))) [],oQ 8 (.mv Z15) [0]]
def l129r7:List AOper :=
  [oQ 16 (.mv Z3) [],oQ 2 (.mv Z16) [0,0]]
def l129:AFn :=
  (AFn.mk 17 1 (.seq (.reg l129r0) (.seq (.reg l129r1) (.seq (.seq (.reg l129r2) (.block 0 (.loop (.seq (.reg l129r3) (.seq (.cond (.tmp 9) .skip (.exit 0)) (.seq (.block 1 (.seq (.reg l129r4) (.reg l129r5))) (.reg l129r6))))))) (.seq (.reg l129r7) .ret)))) [.tmp 2])
theorem l129_eq:lowFn Tryz.prog 129=some l129:=by kernel_rfl
def l130r0:List AOper :=
  [oQ 4 (.mv (.const (.bool false))) []]
def l130r1:List AOper :=
  [oQ 5 (.mv Z1) [],oQ 6 (.un .neg Z5) [0],oQ 7 (.mv Z0) [],oQ 8 (.bin .leq Z6 Z7) [1,2],oQ 9 (.mv Z8) [3],gQ 10 (.mv Z0) (some (9,true)) [4],gQ 11 (.mv Z1) (some (9,true)) [4],gQ 12 (.bin .leq Z10 Z11) (some (9,true)) [5,6,4],oQ 13 (.pick Z9 Z12 (.const (.bool false))) [4,7],oQ 4 (.mv Z13) [8,4,0,1,2,3,4,5,6,7,8]]
def l130:AFn :=
  (AFn.mk 14 2 (.seq (.reg l130r0) (.seq (.reg l130r1) .ret)) [.tmp 4])
theorem l130_eq:lowFn Tryz.prog 130=some l130:=by kernel_rfl
def l132r0:List AOper :=
  [oQ 2 (.box Z0) [],oQ 4 (.mv (.const (.int .i64 0))) []]
def l132r1:List AOper :=
  [oQ 5 (.mv (.const (.int .i64 0))) []]
def l132r2:List AOper :=
  [oQ 8 (.mv Z1) [],oQ 9 (.len Z8) [0],oQ 10 (.mv (.const (.int .i64 0))) []]
def l132r3:List AOper :=
  [oQ 11 (.bin .lss Z10 Z9) []]
def l132r4:List AOper :=
  [oQ 12 (.mv Z10) [],oQ 13 (.idxA 1 Z8 Z10) [],oQ 14 (.load false 1 Z13) [1],oQ 6 (.mv Z12) [0,0,1,2],oQ 7 (.mv Z14) [2,3,0,1,2,3]]
def l132r5:List AOper :=
  [oQ 15 (.mv Z5) [],oQ 16 (.mv Z6) [],oQ 17 (.idxP 1 4 Z2 Z16) [1],oQ 18 (.load false 1 Z17) [2],oQ 19 (.mv Z7) [],oQ 20 (.bin .mul Z18 Z19) [3,4],oQ 21 (.bin .add Z15 Z20) [0,5],oQ 5 (.mv Z21) [6,0,1,2,3,4,5,6]]
def l132r6:List AOper :=
  [oQ 22 (.bin .add Z10 (.const (.int .i64 1))) [],oQ 10 (.mv Z22) [0]]
def l132r7:List AOper :=
  [oQ 23 (.mv Z5) [],oQ 4 (.mv Z23) [0,0]]
def l132:AFn :=
  (AFn.mk 24 2 (.seq (.reg l132r0) (.seq (.reg l132r1) (.seq (.seq (.reg l132r2) (.block 0 (.loop (.seq (.reg l132r3) (.seq (.cond (.tmp 11) .skip (.exit 0)) (.seq (.block 1 (.seq (.reg l132r4) (.reg l132r5))) (.reg l132r6))))))) (.seq (.reg l132r7) .ret)))) [.tmp 4])
theorem l132_eq:lowFn Tryz.prog 132=some l132:=by kernel_rfl
def l133r0:List AOper :=
  [oQ 4 (.mv (.const (.bool false))) []]
def l133r1:List AOper :=
  [oQ 6 (.mv Z0) [],oQ 7 (.len Z6) [0],oQ 8 (.mv Z1) [],oQ 9 (.len Z8) [2],oQ 10 (.bin .neq Z7 Z9) [1,3]]
def l133r2:List AOper :=
  [oQ 4 (.mv (.const (.bool false))) []]
def l133r3:List AOper :=
  [oQ 5 (.mv (.const (.int .i64 0))) []]
def l133r4:List AOper :=
  [oQ 11 (.mv Z5) [],oQ 12 (.mv Z0) [],oQ 13 (.len Z12) [1],oQ 14 (.bin .lss Z11 Z13) [0,2]]
def l133r5a:List AOper :=
  [oQ 17 (.mv Z0) [],oQ 18 (.mv Z5) [],oQ 19 (.idxA 1 Z17 Z18) [0,1],oQ 20 (.load false 1 Z19) [2],oQ 21 (.mv Z1) [],oQ 22 (.mv Z5) [],oQ 23 (.idxA 1 Z21 Z22) [4,5],oQ 24 (.load false 1 Z23) [6]]
def l133r5b:List AOper :=
  [oQ 25 (.bin .neq Z20 Z24) [3,7]]
def l133r5:List AOper:=l133r5a ++ l133r5b
def l133r6:List AOper :=
  [oQ 4 (.mv (.const (.bool false))) []]
def l133r7:List AOper :=
  [oQ 15 (.mv Z5) [],oQ 16 (.bin .add Z15 (.const (.int .i64 1))) [0],oQ 5 (.mv Z16) [1,0,1]]
def l133r8:List AOper :=
  [oQ 4 (.mv (.const (.bool true))) []]
def l133:AFn :=
  (AFn.mk 26 2 (.seq (.reg l133r0) (.seq (.seq (.reg l133r1) (.cond (.tmp 10) (.seq (.reg l133r2) .ret) .skip)) (.seq (.seq (.reg l133r3) (.block 0 (.loop (.seq (.seq (.reg l133r4) (.cond (.tmp 14) .skip (.exit 0))) (.seq (.block 1 (.seq (.draw l133r5) (.cond (.tmp 25) (.seq (.reg l133r6) .ret) .skip))) (.reg l133r7)))))) (.seq (.reg l133r8) .ret)))) [.tmp 4])
theorem l133_eq:lowFn Tryz.prog 133=some l133:=by kernel_rfl
def l134r0:List AOper :=
  [oQ 2 (.alloc [.slice none 0 0,.slice none 0 0]) []]
def l134r1:List AOper :=
  [oQ 3 (.mv Z0) [],oQ 4 (.call 60 [Z3,.const (.int .i64 0),.const (.int .i64 60)]) [0],oQ 5 (.un .not Z4) [1]]
def l134r2:List AOper :=
  [oQ 6 (.build [.slice none 0 0,.slice none 0 0] []) [],nQ (.store 2 Z2 Z6) [0,0]]
def l134r3:List AOper :=
  [oQ 7 (.mv Z0) [],oQ 8 (.mkslice 1 [.int .i64 0] Z7 Z7) [0,0],oQ 9 (.build [.slice none 0 0,.slice none 0 0] [(0,1,Z8)]) [1],nQ (.store 2 Z2 Z9) [2,0,1,2]]
def l134:AFn :=
  (AFn.mk 10 1 (.seq (.reg l134r0) (.seq (.seq (.reg l134r1) (.cond (.tmp 5) (.seq (.reg l134r2) .ret) .skip)) (.seq (.reg l134r3) .ret))) [.cell 2 true 2])
theorem l134_eq:lowFn Tryz.prog 134=some l134:=by kernel_rfl
def l135r0:List AOper :=
  [oQ 2 (.box Z0) [],oQ 3 (.box Z1) [],oQ 4 (.alloc [.slice none 0 0,.slice none 0 0]) [],oQ 5 (.mv (.const (.string (ByteArray.mk (Array.mk []))))) []]
def l135r1:List AOper :=
  [oQ 9 (.load true 2 Z2) [],oQ 10 (.load true 2 Z3) [],oQ 11 (.call 157 [Z9,Z10]) [0,1],oQ 8 (.mv Z11) [2],oQ 12 (.extract Z8 0) [3],oQ 13 (.extract Z8 1) [3],oQ 6 (.alloc [.slice none 0 0,.slice none 0 0]) [],nQ (.store 2 Z6 Z12) [6,4,2,0,1,2,3,4,6],oQ 7 (.mv Z13) [5,7,0,1,2,3,4,5,6,7]]
def l135r2:List AOper :=
  [oQ 15 (.mv Z7) [],oQ 16 (.un .not Z15) [0],oQ 14 (.mv Z16) [1]]
def l135r3:List AOper :=
  [oQ 17 (.load true 2 Z2) [],nQ (.store 2 Z4 Z17) [0,0],oQ 5 (.mv (.const (.string (ByteArray.mk (Array.mk [(110:UInt8),(111:UInt8)]))))) [1,0,1]]
def l135r4:List AOper :=
  [oQ 19 (.fld 0 Z3) [],oQ 20 (.load false 1 Z19) [0],oQ 21 (.bin .eql Z20 (.const (.int .i64 6))) [1],oQ 18 (.mv Z21) [2]]
def l135r5a:List AOper :=
  [oQ 22 (.load true 2 Z2) [],oQ 23 (.fld 0 Z2) [],oQ 24 (.load false 1 Z23) [1],oQ 25 (.fld 1 Z2) [],oQ 26 (.load false 1 Z25) [3],oQ 27 (.fld 1 Z3) [],oQ 28 (.load false 1 Z27) [5],oQ 29 (.idxA 1 Z28 (.const (.int .i64 0))) [6],oQ 30 (.load false 1 Z29) [7],oQ 31 (.idxA 5 Z26 Z30) [4,8],oQ 32 (.fld 1 Z31) [9],oQ 33 (.load true 3 Z32) [10],oQ 34 (.call 52 [Z24,Z33]) [2,11],oQ 35 (.call 158 [Z34]) [12,12],oQ 36 (.bin .add (.const (.string (ByteArray.mk (Array.mk [(104:UInt8),(97:UInt8),(115:UInt8)])))) Z35) [13],nQ (.store 2 Z4 Z22) [0,13,0]]
def l135r5b:List AOper :=
  [oQ 5 (.mv Z36) [14,15,0,1,2,3,4,5,6,7,8,9,10,11,12,13,14,15]]
def l135r5:List AOper:=l135r5a ++ l135r5b
def l135r6:List AOper :=
  [oQ 38 (.fld 0 Z3) [],oQ 39 (.load false 1 Z38) [0],oQ 40 (.bin .eql Z39 (.const (.int .i64 1))) [1],oQ 41 (.mv Z40) [2],gQ 42 (.fld 0 Z3) (some (41,false)) [3],gQ 43 (.load false 1 Z42) (some (41,false)) [4,3],gQ 44 (.bin .eql Z43 (.const (.int .i64 2))) (some (41,false)) [5,3],oQ 45 (.pick Z41 (.const (.bool true)) Z44) [3,6],oQ 46 (.mv Z45) [7,3],gQ 47 (.fld 0 Z3) (some (46,false)) [8],gQ 48 (.load false 1 Z47) (some (46,false)) [9,8],gQ 49 (.bin .eql Z48 (.const (.int .i64 3))) (some (46,false)) [10,8],oQ 50 (.pick Z46 (.const (.bool true)) Z49) [8,11],oQ 37 (.mv Z50) [12,8]]
def l135r7a:List AOper :=
  [oQ 51 (.load true 2 Z6) [],oQ 52 (.fld 1 Z6) [],oQ 53 (.load false 1 Z52) [1],oQ 54 (.len Z53) [2],oQ 55 (.bin .sub Z54 (.const (.int .i64 1))) [3],oQ 56 (.call 159 [Z55]) [4],oQ 57 (.bin .add (.const (.string (ByteArray.mk (Array.mk [(97:UInt8),(116:UInt8),(32:UInt8)])))) Z56) [5],nQ (.store 2 Z4 Z51) [0,5,0]]
def l135r7b:List AOper :=
  [oQ 5 (.mv Z57) [6,7,0,1,2,3,4,5,6,7]]
def l135r7:List AOper:=l135r7a ++ l135r7b
def l135r8:List AOper :=
  [oQ 58 (.load true 2 Z6) [],nQ (.store 2 Z4 Z58) [0,0],oQ 5 (.mv (.const (.string (ByteArray.mk (Array.mk [(111:UInt8),(107:UInt8)]))))) [1,0,1]]
def l135:AFn :=
  (AFn.mk 59 2 (.seq (.reg l135r0) (.seq (.reg l135r1) (.seq (.block 0 (.seq (.reg l135r2) (.cond (.tmp 14) (.seq (.reg l135r3) .ret) (.seq (.reg l135r4) (.cond (.tmp 18) (.seq (.draw l135r5) .ret) (.seq (.reg l135r6) (.cond (.tmp 37) (.seq (.draw l135r7) .ret) .skip))))))) (.seq (.reg l135r8) .ret)))) [.cell 4 true 2,.tmp 5])
theorem l135_eq:lowFn Tryz.prog 135=some l135:=by kernel_rfl
def l136r0:List AOper :=
  [oQ 3 (.box Z1) [],oQ 4 (.alloc [.int .i64 0,.slice none 0 0]) []]
def l136r1:List AOper :=
  [oQ 8 (.mv Z0) [],oQ 9 (.fld 1 Z3) [],oQ 10 (.load false 1 Z9) [1],oQ 11 (.len Z10) [2],oQ 12 (.bin .add Z11 (.const (.int .i64 1))) [3],oQ 13 (.call 65 [Z8,Z12]) [0,4],oQ 5 (.mv Z13) [5,5,0,1,2,3,4,5]]
def l136r2:List AOper :=
  [oQ 14 (.load true 2 Z3) [],oQ 15 (.call 160 [Z14]) [0],oQ 6 (.mv Z15) [1,1,0,1]]
def l136r3:List AOper :=
  [oQ 16 (.mv Z6) [],oQ 17 (.len Z16) [0],oQ 18 (.bin .gtr Z17 (.const (.int .i64 0))) [1],oQ 19 (.mv Z18) [2],gQ 20 (.mv Z0) (some (19,true)) [3],gQ 21 (.call 65 [Z20,.const (.int .i64 4)]) (some (19,true)) [4,3,3],gQ 22 (.bin .gtr Z21 (.const (.int .i64 0))) (some (19,true)) [5,3],oQ 23 (.pick Z19 Z22 (.const (.bool false))) [3,6]]
def l136r4:List AOper :=
  [oQ 24 (.mv Z6) [],oQ 25 (.mv Z0) [],oQ 26 (.mv Z6) [],oQ 27 (.len Z26) [2],oQ 28 (.call 65 [Z25,Z27]) [1,3],oQ 29 (.idxA 1 Z24 Z28) [0,4],oQ 30 (.load false 1 Z29) [5],oQ 5 (.mv Z30) [6,4,0,1,2,3,4,5,6]]
def l136r5:List AOper :=
  [oQ 31 (.mv Z0) [],oQ 32 (.bslice 1 [.int .i64 0] [(0,.const (.int .i64 1)),(1,.const (.int .i64 2)),(2,.const (.int .i64 3)),(3,.const (.int .i64 4)),(4,.const (.int .i64 5)),(5,.const (.int .i64 6)),(6,.const (.int .i64 7)),(7,.const (.int .i64 0)),(8,.const (.int .i64 6)),(9,.const (.int .i64 4))] 10) [],oQ 33 (.call 57 [Z31,Z32]) [0,1],oQ 7 (.mv Z33) [2,2,0,1,2]]
def l136r6:List AOper :=
  [oQ 34 (.mv Z7) []]
def l136r7:List AOper :=
  [oQ 40 (.bin .eql Z34 (.const (.int .i64 0))) [],oQ 39 (.mv Z40) [0]]
def l136r8:List AOper :=
  [oQ 41 (.mv Z7) [],oQ 42 (.mv Z0) [],oQ 43 (.bslice 1 [.int .i64 0] [(0,.const (.int .i64 12)),(1,.const (.int .i64 20)),(2,.const (.int .i64 8)),(3,.const (.int .i64 30)),(4,.const (.int .i64 0))] 5) [],oQ 44 (.call 57 [Z42,Z43]) [1,2],oQ 45 (.bslice 1 [.int .i64 0] [(0,Z44)] 1) [3],oQ 46 (.build [.int .i64 0,.slice none 0 0] [(0,1,Z41),(1,1,Z45)]) [0,4],nQ (.store 2 Z4 Z46) [5,3,0,1,2,3,4,5]]
def l136r9:List AOper :=
  [oQ 48 (.bin .eql Z34 (.const (.int .i64 1))) [],oQ 47 (.mv Z48) [0]]
def l136r10:List AOper :=
  [oQ 49 (.mv Z7) [],oQ 50 (.mv Z0) [],oQ 51 (.call 65 [Z50,.const (.int .i64 6)]) [1],oQ 52 (.mv Z0) [],oQ 53 (.bslice 1 [.int .i64 0] [(0,.const (.int .i64 4)),(1,.const (.int .i64 3)),(2,.const (.int .i64 5)),(3,.const (.int .i64 2)),(4,.const (.int .i64 0))] 5) [],oQ 54 (.call 57 [Z52,Z53]) [3,4,2],oQ 55 (.mv Z0) [],oQ 56 (.bslice 1 [.int .i64 0] [(0,.const (.int .i64 1)),(1,.const (.int .i64 2)),(2,.const (.int .i64 3)),(3,.const (.int .i64 0)),(4,.const (.int .i64 (-1)))] 5) [],oQ 57 (.call 57 [Z55,Z56]) [6,7,5],oQ 58 (.bslice 1 [.int .i64 0] [(0,Z51),(1,Z54),(2,Z57)] 3) [2,5,8],oQ 59 (.build [.int .i64 0,.slice none 0 0] [(0,1,Z49),(1,1,Z58)]) [0,9],nQ (.store 2 Z4 Z59) [10,8,0,1,2,3,4,5,6,7,8,9,10]]
def l136r11:List AOper :=
  [oQ 61 (.bin .eql Z34 (.const (.int .i64 2))) [],oQ 60 (.mv Z61) [0]]
def l136r12:List AOper :=
  [oQ 62 (.mv Z7) [],oQ 63 (.mv Z5) [],oQ 64 (.mv Z0) [],oQ 65 (.call 65 [Z64,.const (.int .i64 4)]) [2],oQ 66 (.mv Z0) [],oQ 67 (.bslice 1 [.int .i64 0] [(0,.const (.int .i64 3)),(1,.const (.int .i64 4)),(2,.const (.int .i64 (-1))),(3,.const (.int .i64 2))] 4) [],oQ 68 (.call 57 [Z66,Z67]) [4,5,3],oQ 69 (.mv Z0) [],oQ 70 (.bslice 1 [.int .i64 0] [(0,.const (.int .i64 1)),(1,.const (.int .i64 2)),(2,.const (.int .i64 (-1))),(3,.const (.int .i64 1))] 4) [],oQ 71 (.call 57 [Z69,Z70]) [7,8,6],oQ 72 (.bslice 1 [.int .i64 0] [(0,Z63),(1,Z65),(2,Z68),(3,Z71)] 4) [1,3,6,9],oQ 73 (.build [.int .i64 0,.slice none 0 0] [(0,1,Z62),(1,1,Z72)]) [0,10],nQ (.store 2 Z4 Z73) [11,9,0,1,2,3,4,5,6,7,8,9,10,11]]
def l136r13:List AOper :=
  [oQ 75 (.bin .eql Z34 (.const (.int .i64 4))) [],oQ 74 (.mv Z75) [0]]
def l136r14:List AOper :=
  [oQ 76 (.mv Z7) [],oQ 77 (.mv Z5) [],oQ 78 (.mv Z0) [],oQ 79 (.call 65 [Z78,.const (.int .i64 100)]) [2],oQ 80 (.bslice 1 [.int .i64 0] [(0,Z77),(1,Z79)] 2) [1,3],oQ 81 (.build [.int .i64 0,.slice none 0 0] [(0,1,Z76),(1,1,Z80)]) [0,4],nQ (.store 2 Z4 Z81) [5,3,0,1,2,3,4,5]]
def l136r15:List AOper :=
  [oQ 83 (.bin .eql Z34 (.const (.int .i64 5))) [],oQ 82 (.mv Z83) [0]]
def l136r16:List AOper :=
  [oQ 84 (.mv Z7) [],oQ 85 (.mv Z5) [],oQ 86 (.mv Z0) [],oQ 87 (.fld 1 Z3) [],oQ 88 (.load false 1 Z87) [3],oQ 89 (.len Z88) [4],oQ 90 (.bin .add Z89 (.const (.int .i64 1))) [5],oQ 91 (.call 65 [Z86,Z90]) [2,6],oQ 92 (.bslice 1 [.int .i64 0] [(0,Z85),(1,Z91)] 2) [1,7],oQ 93 (.build [.int .i64 0,.slice none 0 0] [(0,1,Z84),(1,1,Z92)]) [0,8],nQ (.store 2 Z4 Z93) [9,7,0,1,2,3,4,5,6,7,8,9]]
def l136r17:List AOper :=
  [oQ 35 (.mv Z7) [],oQ 36 (.mv Z5) [],oQ 37 (.bslice 1 [.int .i64 0] [(0,Z36)] 1) [1],oQ 38 (.build [.int .i64 0,.slice none 0 0] [(0,1,Z35),(1,1,Z37)]) [0,2],nQ (.store 2 Z4 Z38) [3,0,1,2,3]]
def l136:AFn :=
  (AFn.mk 94 2 (.seq (.reg l136r0) (.seq (.reg l136r1) (.seq (.seq (.reg l136r2) (.seq (.reg l136r3) (.cond (.tmp 23) (.reg l136r4) .skip))) (.seq (.reg l136r5) (.seq (.reg l136r6) (.block 0 (.seq (.reg l136r7) (.cond (.tmp 39) (.seq (.reg l136r8) .ret) (.seq (.reg l136r9) (.cond (.tmp 47) (.seq (.reg l136r10) .ret) (.seq (.reg l136r11) (.cond (.tmp 60) (.seq (.reg l136r12) .ret) (.seq (.reg l136r13) (.cond (.tmp 74) (.seq (.reg l136r14) .ret) (.seq (.reg l136r15) (.cond (.tmp 82) (.seq (.reg l136r16) .ret) (.seq (.reg l136r17) .ret))))))))))))))))) [.cell 4 true 2])
theorem l136_eq:lowFn Tryz.prog 136=some l136:=by kernel_rfl
def l145r0:List AOper :=
  [oQ 4 (.mv (.const (.bool false))) []]
def l145r1:List AOper :=
  [oQ 5 (.mv Z0) [],oQ 6 (.call 130 [Z5,.const (.int .i64 100)]) [0],oQ 7 (.mv Z6) [1,1],gQ 8 (.mv Z1) (some (7,true)) [2],gQ 9 (.mv Z8) (some (7,true)) [3,2,2],gQ 10 (.mv Z0) (some (9,false)) [4],gQ 11 (.bin .eql Z10 (.const (.int .i64 0))) (some (9,false)) [5,4],gQ 12 (.pick Z9 (.const (.bool true)) Z11) (some (7,true)) [4,6,2],oQ 13 (.pick Z7 Z12 (.const (.bool false))) [2,7],oQ 4 (.mv Z13) [8,4,0,1,2,3,4,5,6,7,8]]
def l145:AFn :=
  (AFn.mk 14 2 (.seq (.reg l145r0) (.seq (.reg l145r1) .ret)) [.tmp 4])
theorem l145_eq:lowFn Tryz.prog 145=some l145:=by kernel_rfl
def l146r0:List AOper :=
  [oQ 2 (.mv (.const (.bool false))) []]
def l146r1:List AOper :=
  [oQ 3 (.mv Z0) [],oQ 4 (.call 130 [Z3,.const (.int .i64 200)]) [0],oQ 5 (.mv Z4) [1,1],gQ 6 (.mv Z0) (some (5,true)) [2],gQ 7 (.bin .neq Z6 (.const (.int .i64 0))) (some (5,true)) [3,2],oQ 8 (.pick Z5 Z7 (.const (.bool false))) [2,4],oQ 2 (.mv Z8) [5,2,0,1,2,3,4,5]]
def l146:AFn :=
  (AFn.mk 9 1 (.seq (.reg l146r0) (.seq (.reg l146r1) .ret)) [.tmp 2])
theorem l146_eq:lowFn Tryz.prog 146=some l146:=by kernel_rfl
def l147r0:List AOper :=
  [oQ 8 (.mv (.const (.int .i64 0))) []]
def l147r1:List AOper :=
  [oQ 9 (.mv Z0) [],oQ 10 (.bin .lss Z9 (.const (.int .i64 0))) [0]]
def l147r2:List AOper :=
  [oQ 11 (.mv Z0) [],oQ 12 (.mv Z1) [],oQ 13 (.bin .add Z11 Z12) [0,1],oQ 0 (.mv Z13) [2,0,1,2]]
def l147r3:List AOper :=
  [oQ 14 (.mv Z0) [],oQ 15 (.mv Z2) [],oQ 16 (.minmax true Z14 Z15) [0,1],oQ 17 (.mv Z3) [],oQ 18 (.minmax false Z16 Z17) [2,3],oQ 8 (.mv Z18) [4,0,1,2,3,4]]
def l147:AFn :=
  (AFn.mk 19 4 (.seq (.reg l147r0) (.seq (.seq (.reg l147r1) (.cond (.tmp 10) (.reg l147r2) .skip)) (.seq (.reg l147r3) .ret))) [.tmp 8])
theorem l147_eq:lowFn Tryz.prog 147=some l147:=by kernel_rfl
def l148r0:List AOper :=
  [oQ 1 (.box Z0) [],oQ 2 (.alloc [.int .i64 0,.slice none 0 0,.slice none 0 0]) []]
def l148r1:List AOper :=
  [oQ 6 (.fld 0 Z1) [],oQ 7 (.load true 3 Z6) [0],oQ 8 (.fld 3 Z1) [],oQ 9 (.load true 4 Z8) [2],oQ 10 (.call 104 [Z7,Z9]) [1,3],oQ 11 (.build [.int .i64 0,.slice none 0 0,.slice none 0 0] [(0,1,Z10)]) [4],oQ 3 (.alloc [.int .i64 0,.slice none 0 0,.slice none 0 0]) [],nQ (.store 3 Z3 Z11) [6,5,4,0,1,2,3,4,5,6]]
def l148r2:List AOper :=
  [oQ 12 (.fld 7 Z1) [],oQ 13 (.load false 1 Z12) [0],oQ 14 (.len Z13) [1],oQ 15 (.mv (.const (.int .i64 0))) []]
def l148r3:List AOper :=
  [oQ 16 (.bin .lss Z15 Z14) []]
def l148r4:List AOper :=
  [oQ 17 (.idxA 2 Z13 Z15) [],oQ 18 (.load true 2 Z17) [0],oQ 5 (.alloc [.int .i64 0,.int .i64 0]) [],nQ (.store 2 Z5 Z18) [2,1,0,1,2]]
def l148r5:List AOper :=
  [oQ 19 (.fld 1 Z3) [],oQ 20 (.load false 1 Z19) [0],oQ 21 (.fld 0 Z5) [],oQ 22 (.load false 1 Z21) [2],oQ 23 (.bslice 1 [.int .i64 0] [(0,Z22)] 1) [3],oQ 24 (.append 1 Z20 Z23) [1,4],oQ 25 (.fld 1 Z3) [0,1,2,3,4,5],nQ (.store 1 Z25 Z24) [6,5,5,0,1,2,3,4,5]]
def l148r6:List AOper :=
  [oQ 26 (.fld 2 Z3) [],oQ 27 (.load false 1 Z26) [0],oQ 28 (.fld 1 Z5) [],oQ 29 (.load false 1 Z28) [2],oQ 30 (.bslice 1 [.int .i64 0] [(0,Z29)] 1) [3],oQ 31 (.append 1 Z27 Z30) [1,4],oQ 32 (.fld 2 Z3) [0,1,2,3,4,5],nQ (.store 1 Z32 Z31) [6,5,5,0,1,2,3,4,5]]
def l148r7:List AOper :=
  [oQ 33 (.bin .add Z15 (.const (.int .i64 1))) [],oQ 15 (.mv Z33) [0]]
def l148r8:List AOper :=
  [oQ 34 (.load true 3 Z3) [],nQ (.store 3 Z2 Z34) [0,0]]
def l148:AFn :=
  (AFn.mk 35 1 (.seq (.reg l148r0) (.seq (.reg l148r1) (.seq (.seq (.reg l148r2) (.block 0 (.loop (.seq (.reg l148r3) (.seq (.cond (.tmp 16) .skip (.exit 0)) (.seq (.block 1 (.seq (.reg l148r4) (.seq (.reg l148r5) (.reg l148r6)))) (.reg l148r7))))))) (.seq (.reg l148r8) .ret)))) [.cell 2 true 3])
theorem l148_eq:lowFn Tryz.prog 148=some l148:=by kernel_rfl
def l149r0:List AOper :=
  [oQ 2 (.alloc [.int .i64 0,.int .i64 0,.int .i64 0]) []]
def l149r1:List AOper :=
  [oQ 5 (.mv Z0) [],oQ 6 (.len Z5) [0]]
def l149r2:List AOper :=
  [oQ 8 (.bin .eql Z6 (.const (.int .i64 0))) [],oQ 7 (.mv Z8) [0]]
def l149r3:List AOper :=
  [oQ 9 (.build [.int .i64 0,.int .i64 0,.int .i64 0] [(0,1,.const (.int .i64 0)),(1,1,.const (.int .i64 0)),(2,1,.const (.int .i64 1))]) [],nQ (.store 3 Z2 Z9) [0,0]]
def l149r4:List AOper :=
  [oQ 11 (.bin .eql Z6 (.const (.int .i64 1))) [],oQ 10 (.mv Z11) [0]]
def l149r5a:List AOper :=
  [oQ 12 (.mv Z0) [],oQ 13 (.idxA 1 Z12 (.const (.int .i64 0))) [0],oQ 14 (.load false 1 Z13) [1],oQ 15 (.mv Z0) [],oQ 16 (.idxA 1 Z15 (.const (.int .i64 0))) [3],oQ 17 (.load false 1 Z16) [4],oQ 18 (.bin .add Z17 (.const (.int .i64 1))) [5]]
def l149r5b:List AOper :=
  [oQ 19 (.build [.int .i64 0,.int .i64 0,.int .i64 0] [(0,1,Z14),(1,1,Z18),(2,1,.const (.int .i64 1))]) [2,6],nQ (.store 3 Z2 Z19) [7,0,1,2,3,4,5,6,7]]
def l149r5:List AOper:=l149r5a ++ l149r5b
def l149r6a:List AOper :=
  [oQ 20 (.mv Z0) [],oQ 21 (.idxA 1 Z20 (.const (.int .i64 1))) [0],oQ 22 (.load false 1 Z21) [1],oQ 23 (.mv Z0) [],oQ 24 (.idxA 1 Z23 (.const (.int .i64 0))) [3],oQ 25 (.load false 1 Z24) [4]]
def l149r6b:List AOper :=
  [oQ 26 (.bin .sub Z22 Z25) [2,5],oQ 3 (.mv Z26) [6,0,1,2,3,4,5,6]]
def l149r6:List AOper:=l149r6a ++ l149r6b
def l149r7:List AOper :=
  [oQ 27 (.mv Z0) [],oQ 28 (.mv Z0) [],oQ 29 (.len Z28) [1],oQ 30 (.bin .sub Z29 (.const (.int .i64 1))) [2],oQ 31 (.idxA 1 Z27 Z30) [0,3],oQ 32 (.load false 1 Z31) [4],oQ 33 (.bin .add Z32 (.const (.int .i64 1))) [5],oQ 4 (.mv Z33) [6,0,1,2,3,4,5,6]]
def l149r8:List AOper :=
  [oQ 34 (.mv Z3) [],oQ 35 (.bin .lss Z34 (.const (.int .i64 0))) [0]]
def l149r9:List AOper :=
  [oQ 36 (.mv Z0) [],oQ 37 (.mv Z0) [],oQ 38 (.len Z37) [1],oQ 39 (.bin .sub Z38 (.const (.int .i64 1))) [2],oQ 40 (.idxA 1 Z36 Z39) [0,3],oQ 41 (.load false 1 Z40) [4],oQ 42 (.bin .sub Z41 (.const (.int .i64 1))) [5],oQ 4 (.mv Z42) [6,0,1,2,3,4,5,6]]
def l149r10:List AOper :=
  [oQ 43 (.mv Z0) [],oQ 44 (.idxA 1 Z43 (.const (.int .i64 0))) [0],oQ 45 (.load false 1 Z44) [1],oQ 46 (.mv Z4) [],oQ 47 (.mv Z3) [],oQ 48 (.build [.int .i64 0,.int .i64 0,.int .i64 0] [(0,1,Z45),(1,1,Z46),(2,1,Z47)]) [2,3,4],nQ (.store 3 Z2 Z48) [5,0,1,2,3,4,5]]
def l149:AFn :=
  (AFn.mk 49 1 (.seq (.reg l149r0) (.seq (.seq (.reg l149r1) (.block 0 (.seq (.reg l149r2) (.cond (.tmp 7) (.seq (.reg l149r3) .ret) (.seq (.reg l149r4) (.cond (.tmp 10) (.seq (.draw l149r5) .ret) .skip)))))) (.seq (.draw l149r6) (.seq (.reg l149r7) (.seq (.seq (.reg l149r8) (.cond (.tmp 35) (.reg l149r9) .skip)) (.seq (.reg l149r10) .ret)))))) [.cell 2 true 3])
theorem l149_eq:lowFn Tryz.prog 149=some l149:=by kernel_rfl
def l150r0:List AOper :=
  [oQ 3 (.box Z1) [],oQ 4 (.mv (.const (.slice none 0 0))) []]
def l150r1:List AOper :=
  [oQ 5 (.mv (.const (.int .i64 0))) []]
def l150r2:List AOper :=
  [oQ 7 (.mv Z0) [],oQ 6 (.mv Z7) [0,0]]
def l150r3:List AOper :=
  [oQ 8 (.fld 2 Z3) [],oQ 9 (.load false 1 Z8) [0],oQ 10 (.bin .lss Z9 (.const (.int .i64 0))) [1]]
def l150r4:List AOper :=
  [oQ 11 (.mv Z0) [],oQ 12 (.bin .sub Z11 (.const (.int .i64 1))) [0],oQ 5 (.mv Z12) [1,0,1]]
def l150r5:List AOper :=
  [oQ 6 (.mv (.const (.int .i64 (-1)))) []]
def l150r6:List AOper :=
  [oQ 13 (.fld 3 Z3) [],oQ 14 (.load false 1 Z13) [0]]
def l150r7:List AOper :=
  [oQ 15 (.mv Z0) [],oQ 16 (.fld 0 Z3) [],oQ 17 (.load false 1 Z16) [1],oQ 18 (.fld 2 Z3) [],oQ 19 (.load false 1 Z18) [3],oQ 20 (.call 165 [Z15,Z17,Z19]) [0,2,4],oQ 5 (.mv Z20) [5,5,0,1,2,3,4,5]]
def l150r8:List AOper :=
  [oQ 21 (.fld 4 Z3) [],oQ 22 (.load false 1 Z21) [0]]
def l150r9:List AOper :=
  [oQ 23 (.mv Z0) [],oQ 24 (.fld 1 Z3) [],oQ 25 (.load false 1 Z24) [1],oQ 26 (.fld 2 Z3) [],oQ 27 (.load false 1 Z26) [3],oQ 28 (.call 165 [Z23,Z25,Z27]) [0,2,4],oQ 6 (.mv Z28) [5,5,0,1,2,3,4,5]]
def l150r10:List AOper :=
  [oQ 29 (.mv Z5) [],oQ 30 (.mv Z6) [],oQ 31 (.fld 2 Z3) [],oQ 32 (.load false 1 Z31) [2],oQ 33 (.build [.int .i64 0,.int .i64 0,.int .i64 0] [(0,1,Z29),(1,1,Z30),(2,1,Z32)]) [0,1,3],oQ 34 (.call 151 [Z33]) [4],oQ 4 (.mv Z34) [5,5,0,1,2,3,4,5]]
def l150:AFn :=
  (AFn.mk 35 2 (.seq (.reg l150r0) (.seq (.reg l150r1) (.seq (.reg l150r2) (.seq (.seq (.reg l150r3) (.cond (.tmp 10) (.seq (.reg l150r4) (.reg l150r5)) .skip)) (.seq (.seq (.reg l150r6) (.cond (.tmp 14) (.reg l150r7) .skip)) (.seq (.seq (.reg l150r8) (.cond (.tmp 22) (.reg l150r9) .skip)) (.seq (.reg l150r10) .ret))))))) [.tmp 4])
theorem l150_eq:lowFn Tryz.prog 150=some l150:=by kernel_rfl
def l151r0:List AOper :=
  [oQ 1 (.box Z0) [],oQ 2 (.mv (.const (.slice none 0 0))) []]
def l151r1:List AOper :=
  [oQ 5 (.bslice 1 [.int .i64 0] [] 0) [],oQ 3 (.mv Z5) [0,0]]
def l151r2:List AOper :=
  [oQ 6 (.fld 0 Z1) [],oQ 7 (.load false 1 Z6) [0],oQ 4 (.mv Z7) [1,0,1]]
def l151r3:List AOper :=
  [oQ 8 (.fld 2 Z1) [],oQ 9 (.load false 1 Z8) [0],oQ 10 (.bin .gtr Z9 (.const (.int .i64 0))) [1],oQ 11 (.mv Z10) [2],gQ 12 (.mv Z4) (some (11,true)) [3],gQ 13 (.fld 1 Z1) (some (11,true)) [3],gQ 14 (.load false 1 Z13) (some (11,true)) [5,3],gQ 15 (.bin .lss Z12 Z14) (some (11,true)) [4,6,3],oQ 16 (.pick Z11 Z15 (.const (.bool false))) [3,7],oQ 17 (.mv Z16) [8,3],gQ 18 (.fld 2 Z1) (some (17,false)) [9],gQ 19 (.load false 1 Z18) (some (17,false)) [10,9],gQ 20 (.bin .lss Z19 (.const (.int .i64 0))) (some (17,false)) [11,9],gQ 21 (.mv Z20) (some (17,false)) [12,9,9],gQ 22 (.mv Z4) (some (21,true)) [13],gQ 23 (.fld 1 Z1) (some (21,true)) [13],gQ 24 (.load false 1 Z23) (some (21,true)) [15,13],gQ 25 (.bin .gtr Z22 Z24) (some (21,true)) [14,16,13],gQ 26 (.pick Z21 Z25 (.const (.bool false))) (some (17,false)) [13,17,9],oQ 27 (.pick Z17 (.const (.bool true)) Z26) [9,18]]
def l151r4:List AOper :=
  [oQ 32 (.mv Z3) [],oQ 33 (.mv Z4) [],oQ 34 (.bslice 1 [.int .i64 0] [(0,Z33)] 1) [1],oQ 35 (.append 1 Z32 Z34) [0,2],oQ 3 (.mv Z35) [3,3,0,1,2,3]]
def l151r5:List AOper :=
  [oQ 28 (.mv Z4) [],oQ 29 (.fld 2 Z1) [],oQ 30 (.load false 1 Z29) [1],oQ 31 (.bin .add Z28 Z30) [0,2],oQ 4 (.mv Z31) [3,0,1,2,3]]
def l151r6:List AOper :=
  [oQ 36 (.mv Z3) [],oQ 2 (.mv Z36) [0,0]]
def l151:AFn :=
  (AFn.mk 37 1 (.seq (.reg l151r0) (.seq (.reg l151r1) (.seq (.seq (.reg l151r2) (.block 0 (.loop (.seq (.seq (.reg l151r3) (.cond (.tmp 27) .skip (.exit 0))) (.seq (.block 1 (.reg l151r4)) (.reg l151r5)))))) (.seq (.reg l151r6) .ret)))) [.tmp 2])
theorem l151_eq:lowFn Tryz.prog 151=some l151:=by kernel_rfl
def l152r0:List AOper :=
  [oQ 1 (.box Z0) [],oQ 2 (.alloc [.int .i64 0,.slice none 0 0,.slice none 0 0]) []]
def l152r1:List AOper :=
  [oQ 3 (.fld 1 Z1) [],oQ 4 (.load false 1 Z3) [0],oQ 5 (.call 113 [Z4]) [1],oQ 6 (.bin .eql Z5 (.const (.int .i64 0))) [2]]
def l152r2a:List AOper :=
  [oQ 7 (.fld 1 Z1) [],oQ 8 (.load false 1 Z7) [0],oQ 9 (.fld 1 Z1) [],oQ 10 (.load false 1 Z9) [2],oQ 11 (.len Z10) [3],oQ 12 (.mkslice 1 [.int .i64 0] Z11 Z11) [4,4]]
def l152r2b:List AOper :=
  [oQ 13 (.build [.int .i64 0,.slice none 0 0,.slice none 0 0] [(1,1,Z8),(2,1,Z12)]) [1,5],nQ (.store 3 Z2 Z13) [6,0,1,2,3,4,5,6]]
def l152r2:List AOper:=l152r2a ++ l152r2b
def l152r3:List AOper :=
  [oQ 14 (.load true 3 Z1) [],nQ (.store 3 Z2 Z14) [0,0]]
def l152:AFn :=
  (AFn.mk 15 1 (.seq (.reg l152r0) (.seq (.seq (.reg l152r1) (.cond (.tmp 6) (.seq (.draw l152r2) .ret) .skip)) (.seq (.reg l152r3) .ret))) [.cell 2 true 3])
theorem l152_eq:lowFn Tryz.prog 152=some l152:=by kernel_rfl
def l157r0:List AOper :=
  [oQ 2 (.box Z0) [],oQ 3 (.box Z1) [],oQ 4 (.alloc [.slice none 0 0,.slice none 0 0]) [],oQ 5 (.mv (.const (.bool false))) []]
def l157r1:List AOper :=
  [oQ 7 (.fld 1 Z3) [],oQ 8 (.load false 1 Z7) [0],oQ 6 (.mv Z8) [1,0,1]]
def l157r2:List AOper :=
  [oQ 9 (.fld 0 Z3) [],oQ 10 (.load false 1 Z9) [0]]
def l157r3:List AOper :=
  [oQ 12 (.bin .eql Z10 (.const (.int .i64 0))) [],oQ 11 (.mv Z12) [0]]
def l157r4a:List AOper :=
  [oQ 13 (.load true 2 Z2) [],oQ 14 (.mv Z6) [],oQ 15 (.idxA 1 Z14 (.const (.int .i64 0))) [1],oQ 16 (.load false 1 Z15) [2],oQ 17 (.call 177 [Z13,Z16]) [0,3],oQ 18 (.extract Z17 0) [4],oQ 19 (.extract Z17 1) [4]]
def l157r4b:List AOper :=
  [nQ (.store 2 Z4 Z18) [5,4,0,1,2,3,4,5,6],oQ 5 (.mv Z19) [6,7,0,1,2,3,4,5,6,7]]
def l157r4:List AOper:=l157r4a ++ l157r4b
def l157r5:List AOper :=
  [oQ 21 (.bin .eql Z10 (.const (.int .i64 1))) [],oQ 20 (.mv Z21) [0]]
def l157r6a:List AOper :=
  [oQ 22 (.load true 2 Z2) [],oQ 23 (.mv Z6) [],oQ 24 (.idxA 1 Z23 (.const (.int .i64 0))) [1],oQ 25 (.load false 1 Z24) [2],oQ 26 (.mv Z6) [],oQ 27 (.idxA 1 Z26 (.const (.int .i64 1))) [4],oQ 28 (.load false 1 Z27) [5],oQ 29 (.bslice 1 [.int .i64 0] [(0,Z28)] 1) [6],oQ 30 (.mv Z6) [],oQ 31 (.idxA 1 Z30 (.const (.int .i64 2))) [8],oQ 32 (.load false 1 Z31) [9],oQ 33 (.bslice 1 [.int .i64 0] [(0,Z32)] 1) [10],oQ 34 (.build [.int .i64 0,.slice none 0 0,.slice none 0 0] [(0,1,Z25),(1,1,Z29),(2,1,Z33)]) [3,7,11],oQ 35 (.call 34 [Z22,Z34]) [0,12],oQ 36 (.extract Z35 0) [13],oQ 37 (.extract Z35 1) [13]]
def l157r6b:List AOper :=
  [nQ (.store 2 Z4 Z36) [14,13,0,1,2,3,4,5,6,7,8,9,10,11,12,13,14,15],oQ 5 (.mv Z37) [15,16,0,1,2,3,4,5,6,7,8,9,10,11,12,13,14,15,16]]
def l157r6:List AOper:=l157r6a ++ l157r6b
def l157r7:List AOper :=
  [oQ 39 (.bin .eql Z10 (.const (.int .i64 2))) [],oQ 38 (.mv Z39) [0]]
def l157r8a:List AOper :=
  [oQ 40 (.load true 2 Z2) [],oQ 41 (.mv Z6) [],oQ 42 (.idxA 1 Z41 (.const (.int .i64 0))) [1],oQ 43 (.load false 1 Z42) [2],oQ 44 (.mv Z6) [],oQ 45 (.idxA 1 Z44 (.const (.int .i64 1))) [4],oQ 46 (.load false 1 Z45) [5],oQ 47 (.mv Z6) [],oQ 48 (.idxA 1 Z47 (.const (.int .i64 2))) [7],oQ 49 (.load false 1 Z48) [8],oQ 50 (.mv Z6) [],oQ 51 (.idxA 1 Z50 (.const (.int .i64 3))) [10],oQ 52 (.load false 1 Z51) [11],oQ 53 (.build [.int .i64 0,.int .i64 0,.int .i64 0,.bool false,.bool false] [(0,1,Z46),(1,1,Z49),(2,1,Z52),(3,1,.const (.bool true)),(4,1,.const (.bool true))]) [6,9,12],oQ 54 (.call 37 [Z40,Z43,.const (.int .i64 0),Z53]) [0,3,13],oQ 55 (.extract Z54 0) [14],oQ 56 (.extract Z54 1) [14]]
def l157r8b:List AOper :=
  [nQ (.store 2 Z4 Z55) [15,14,0,1,2,3,4,5,6,7,8,9,10,11,12,13,14,15,16],oQ 5 (.mv Z56) [16,17,0,1,2,3,4,5,6,7,8,9,10,11,12,13,14,15,16,17]]
def l157r8:List AOper:=l157r8a ++ l157r8b
def l157r9:List AOper :=
  [oQ 58 (.bin .eql Z10 (.const (.int .i64 3))) [],oQ 57 (.mv Z58) [0]]
def l157r10a:List AOper :=
  [oQ 59 (.load true 2 Z2) [],oQ 60 (.mv Z6) [],oQ 61 (.idxA 1 Z60 (.const (.int .i64 0))) [1],oQ 62 (.load false 1 Z61) [2],oQ 63 (.build [.int .i64 0,.int .i64 0,.int .i64 0,.bool false,.bool false] [(2,1,.const (.int .i64 (-1)))]) [],oQ 64 (.call 37 [Z59,Z62,.const (.int .i64 0),Z63]) [0,3,4],oQ 65 (.extract Z64 0) [5],oQ 66 (.extract Z64 1) [5]]
def l157r10b:List AOper :=
  [nQ (.store 2 Z4 Z65) [6,5,0,1,2,3,4,5,6,7],oQ 5 (.mv Z66) [7,8,0,1,2,3,4,5,6,7,8]]
def l157r10:List AOper:=l157r10a ++ l157r10b
def l157r11:List AOper :=
  [oQ 68 (.bin .eql Z10 (.const (.int .i64 4))) [],oQ 67 (.mv Z68) [0]]
def l157r12a:List AOper :=
  [oQ 69 (.load true 2 Z2) [],oQ 70 (.mv Z6) [],oQ 71 (.idxA 1 Z70 (.const (.int .i64 0))) [1],oQ 72 (.load false 1 Z71) [2],oQ 73 (.mv Z6) [],oQ 74 (.idxA 1 Z73 (.const (.int .i64 1))) [4],oQ 75 (.load false 1 Z74) [5],oQ 76 (.call 23 [Z69,Z72,Z75]) [0,3,6],oQ 77 (.extract Z76 0) [7],oQ 78 (.extract Z76 1) [7]]
def l157r12b:List AOper :=
  [nQ (.store 2 Z4 Z77) [8,7,0,1,2,3,4,5,6,7,8,9],oQ 5 (.mv Z78) [9,10,0,1,2,3,4,5,6,7,8,9,10]]
def l157r12:List AOper:=l157r12a ++ l157r12b
def l157r13:List AOper :=
  [oQ 80 (.bin .eql Z10 (.const (.int .i64 5))) [],oQ 79 (.mv Z80) [0]]
def l157r14a:List AOper :=
  [oQ 81 (.load true 2 Z2) [],oQ 82 (.mv Z6) [],oQ 83 (.idxA 1 Z82 (.const (.int .i64 0))) [1],oQ 84 (.load false 1 Z83) [2],oQ 85 (.mv Z6) [],oQ 86 (.idxA 1 Z85 (.const (.int .i64 1))) [4],oQ 87 (.load false 1 Z86) [5],oQ 88 (.call 28 [Z81,Z84,Z87]) [0,3,6],oQ 89 (.extract Z88 0) [7],oQ 90 (.extract Z88 1) [7]]
def l157r14b:List AOper :=
  [nQ (.store 2 Z4 Z89) [8,7,0,1,2,3,4,5,6,7,8,9],oQ 5 (.mv Z90) [9,10,0,1,2,3,4,5,6,7,8,9,10]]
def l157r14:List AOper:=l157r14a ++ l157r14b
def l157r15:List AOper :=
  [oQ 92 (.bin .eql Z10 (.const (.int .i64 7))) [],oQ 91 (.mv Z92) [0]]
def l157r16a:List AOper :=
  [oQ 93 (.load true 2 Z2) [],oQ 94 (.mv Z6) [],oQ 95 (.idxA 1 Z94 (.const (.int .i64 0))) [1],oQ 96 (.load false 1 Z95) [2],oQ 97 (.call 11 [Z93,Z96]) [0,3],oQ 98 (.extract Z97 0) [4],oQ 99 (.extract Z97 1) [4]]
def l157r16b:List AOper :=
  [nQ (.store 2 Z4 Z98) [5,4,0,1,2,3,4,5,6],oQ 5 (.mv Z99) [6,7,0,1,2,3,4,5,6,7]]
def l157r16:List AOper:=l157r16a ++ l157r16b
def l157r17a:List AOper :=
  [oQ 100 (.load true 2 Z2) [],oQ 101 (.load true 2 Z2) [],oQ 102 (.mv Z6) [],oQ 103 (.idxA 1 Z102 (.const (.int .i64 0))) [2],oQ 104 (.load false 1 Z103) [3],oQ 105 (.call 48 [Z101,Z104]) [1,4]]
def l157r17b:List AOper :=
  [nQ (.store 2 Z4 Z100) [0,5,0],oQ 5 (.mv Z105) [5,6,0,1,2,3,4,5,6]]
def l157r17:List AOper:=l157r17a ++ l157r17b
def l157:AFn :=
  (AFn.mk 106 2 (.seq (.reg l157r0) (.seq (.reg l157r1) (.seq (.seq (.reg l157r2) (.block 0 (.seq (.reg l157r3) (.cond (.tmp 11) (.seq (.draw l157r4) .ret) (.seq (.reg l157r5) (.cond (.tmp 20) (.seq (.draw l157r6) .ret) (.seq (.reg l157r7) (.cond (.tmp 38) (.seq (.draw l157r8) .ret) (.seq (.reg l157r9) (.cond (.tmp 57) (.seq (.draw l157r10) .ret) (.seq (.reg l157r11) (.cond (.tmp 67) (.seq (.draw l157r12) .ret) (.seq (.reg l157r13) (.cond (.tmp 79) (.seq (.draw l157r14) .ret) (.seq (.reg l157r15) (.cond (.tmp 91) (.seq (.draw l157r16) .ret) .skip)))))))))))))))) (.seq (.draw l157r17) .ret)))) [.cell 4 true 2,.tmp 5])
theorem l157_eq:lowFn Tryz.prog 157=some l157:=by kernel_rfl
def l158r0:List AOper :=
  [oQ 2 (.mv (.const (.string (ByteArray.mk (Array.mk []))))) []]
def l158r1:List AOper :=
  [oQ 3 (.mv (.const (.string (ByteArray.mk (Array.mk []))))) []]
def l158r2:List AOper :=
  [oQ 4 (.mv (.const (.int .i64 0))) []]
def l158r3:List AOper :=
  [oQ 5 (.mv Z4) [],oQ 6 (.mv Z0) [],oQ 7 (.len Z6) [1],oQ 8 (.bin .lss Z5 Z7) [0,2]]
def l158r4:List AOper :=
  [oQ 11 (.mv Z3) [],oQ 12 (.bin .add Z11 (.const (.string (ByteArray.mk (Array.mk [(32:UInt8)]))))) [0],oQ 13 (.mv Z0) [],oQ 14 (.mv Z4) [],oQ 15 (.idxA 1 Z13 Z14) [2,3],oQ 16 (.load false 1 Z15) [4],oQ 17 (.call 159 [Z16]) [5],oQ 18 (.bin .add Z12 Z17) [1,6],oQ 3 (.mv Z18) [7,6,0,1,2,3,4,5,6,7]]
def l158r5:List AOper :=
  [oQ 9 (.mv Z4) [],oQ 10 (.bin .add Z9 (.const (.int .i64 1))) [0],oQ 4 (.mv Z10) [1,0,1]]
def l158r6:List AOper :=
  [oQ 19 (.mv Z3) [],oQ 2 (.mv Z19) [0,0]]
def l158:AFn :=
  (AFn.mk 20 1 (.seq (.reg l158r0) (.seq (.reg l158r1) (.seq (.seq (.reg l158r2) (.block 0 (.loop (.seq (.seq (.reg l158r3) (.cond (.tmp 8) .skip (.exit 0))) (.seq (.block 1 (.reg l158r4)) (.reg l158r5)))))) (.seq (.reg l158r6) .ret)))) [.tmp 2])
theorem l158_eq:lowFn Tryz.prog 158=some l158:=by kernel_rfl
def l159r0:List AOper :=
  [oQ 2 (.mv (.const (.string (ByteArray.mk (Array.mk []))))) []]
def l159r1:List AOper :=
  [oQ 3 (.mv Z0) [],oQ 4 (.bin .lss Z3 (.const (.int .i64 0))) [0],oQ 5 (.mv Z4) [1],gQ 6 (.mv Z0) (some (5,true)) [2],gQ 7 (.mv Z0) (some (5,true)) [2],gQ 8 (.un .neg Z7) (some (5,true)) [4,2],gQ 9 (.bin .eql Z6 Z8) (some (5,true)) [3,5,2],oQ 10 (.pick Z5 Z9 (.const (.bool false))) [2,6]]
def l159r2:List AOper :=
  [oQ 2 (.mv (.const (.string (ByteArray.mk (Array.mk [(45:UInt8),(57:UInt8),(50:UInt8),(50:UInt8),(51:UInt8),(51:UInt8),(55:UInt8),(50:UInt8),(48:UInt8),(51:UInt8),(54:UInt8),(56:UInt8),(53:UInt8),(52:UInt8),(55:UInt8),(55:UInt8),(53:UInt8),(56:UInt8),(48:UInt8),(56:UInt8)]))))) []]
def l159r3:List AOper :=
  [oQ 11 (.mv Z0) [],oQ 12 (.bin .lss Z11 (.const (.int .i64 0))) [0]]
def l159r4:List AOper :=
  [oQ 13 (.mv Z0) [],oQ 14 (.un .neg Z13) [0],oQ 15 (.call 159 [Z14]) [1],oQ 16 (.bin .add (.const (.string (ByteArray.mk (Array.mk [(45:UInt8)])))) Z15) [2],oQ 2 (.mv Z16) [3,2,0,1,2,3]]
def l159r5:List AOper :=
  [oQ 17 (.mv Z0) [],oQ 18 (.bin .lss Z17 (.const (.int .i64 10))) [0]]
def l159r6:List AOper :=
  [oQ 19 (.mv Z0) [],oQ 20 (.mv Z0) [],oQ 21 (.bin .add Z20 (.const (.int .i64 1))) [1],oQ 22 (.sliceS (.const (.string (ByteArray.mk (Array.mk [(48:UInt8),(49:UInt8),(50:UInt8),(51:UInt8),(52:UInt8),(53:UInt8),(54:UInt8),(55:UInt8),(56:UInt8),(57:UInt8)])))) (some Z19) (some Z21)) [0,2],oQ 2 (.mv Z22) [3,0,1,2,3]]
def l159r7:List AOper :=
  [oQ 23 (.mv Z0) [],oQ 24 (.bin .quo Z23 (.const (.int .i64 10))) [0],oQ 25 (.call 159 [Z24]) [1],oQ 26 (.mv Z0) [],oQ 27 (.bin .rem Z26 (.const (.int .i64 10))) [3],oQ 28 (.call 159 [Z27]) [4,2],oQ 29 (.bin .add Z25 Z28) [2,5],oQ 2 (.mv Z29) [6,5,0,1,2,3,4,5,6]]
def l159:AFn :=
  (AFn.mk 30 1 (.seq (.reg l159r0) (.seq (.seq (.reg l159r1) (.cond (.tmp 10) (.seq (.reg l159r2) .ret) .skip)) (.seq (.seq (.reg l159r3) (.cond (.tmp 12) (.seq (.reg l159r4) .ret) .skip)) (.seq (.seq (.reg l159r5) (.cond (.tmp 18) (.seq (.reg l159r6) .ret) .skip)) (.seq (.reg l159r7) .ret))))) [.tmp 2])
theorem l159_eq:lowFn Tryz.prog 159=some l159:=by kernel_rfl
def l160r0:List AOper :=
  [oQ 1 (.box Z0) [],oQ 2 (.mv (.const (.slice none 0 0))) []]
def l160r1:List AOper :=
  [oQ 5 (.load true 2 Z1) [],oQ 6 (.call 47 [Z5]) [0],oQ 7 (.un .not Z6) [1]]
def l160r2:List AOper :=
  [oQ 2 (.mv (.const (.slice none 0 0))) []]
def l160r3:List AOper :=
  [oQ 8 (.bslice 1 [.int .i64 0] [] 0) [],oQ 3 (.mv Z8) [0,0]]
def l160r4:List AOper :=
  [oQ 4 (.mv (.const (.int .i64 0))) []]
def l160r5:List AOper :=
  [oQ 9 (.mv Z4) [],oQ 10 (.fld 1 Z1) [],oQ 11 (.load false 1 Z10) [1],oQ 12 (.len Z11) [2],oQ 13 (.bin .lss Z9 Z12) [0,3]]
def l160r6:List AOper :=
  [oQ 16 (.fld 1 Z1) [],oQ 17 (.load false 1 Z16) [0],oQ 18 (.mv Z4) [],oQ 19 (.idxA 5 Z17 Z18) [1,2],oQ 20 (.fld 4 Z19) [3],oQ 21 (.load false 1 Z20) [4]]
def l160r7:List AOper :=
  [oQ 22 (.mv Z3) [],oQ 23 (.mv Z4) [],oQ 24 (.bslice 1 [.int .i64 0] [(0,Z23)] 1) [1],oQ 25 (.append 1 Z22 Z24) [0,2],oQ 3 (.mv Z25) [3,3,0,1,2,3]]
def l160r8:List AOper :=
  [oQ 14 (.mv Z4) [],oQ 15 (.bin .add Z14 (.const (.int .i64 1))) [0],oQ 4 (.mv Z15) [1,0,1]]
def l160r9:List AOper :=
  [oQ 26 (.mv Z3) [],oQ 2 (.mv Z26) [0,0]]
def l160:AFn :=
  (AFn.mk 27 1 (.seq (.reg l160r0) (.seq (.seq (.reg l160r1) (.cond (.tmp 7) (.seq (.reg l160r2) .ret) .skip)) (.seq (.reg l160r3) (.seq (.seq (.reg l160r4) (.block 0 (.loop (.seq (.seq (.reg l160r5) (.cond (.tmp 13) .skip (.exit 0))) (.seq (.block 1 (.seq (.reg l160r6) (.cond (.tmp 21) (.reg l160r7) .skip))) (.reg l160r8)))))) (.seq (.reg l160r9) .ret))))) [.tmp 2])
theorem l160_eq:lowFn Tryz.prog 160=some l160:=by kernel_rfl
def l165r0:List AOper :=
  [oQ 6 (.mv (.const (.int .i64 0))) []]
def l165r1:List AOper :=
  [oQ 7 (.mv (.const (.int .i64 0))) []]
def l165r2:List AOper :=
  [oQ 9 (.mv Z0) [],oQ 8 (.mv Z9) [0,0]]
def l165r3:List AOper :=
  [oQ 10 (.mv Z2) [],oQ 11 (.bin .lss Z10 (.const (.int .i64 0))) [0]]
def l165r4:List AOper :=
  [oQ 7 (.mv (.const (.int .i64 (-1)))) []]
def l165r5:List AOper :=
  [oQ 12 (.mv Z0) [],oQ 13 (.bin .sub Z12 (.const (.int .i64 1))) [0],oQ 8 (.mv Z13) [1,0,1]]
def l165r6:List AOper :=
  [oQ 14 (.mv Z1) [],oQ 15 (.bin .lss Z14 (.const (.int .i64 0))) [0]]
def l165r7:List AOper :=
  [oQ 16 (.mv Z1) [],oQ 17 (.mv Z0) [],oQ 18 (.bin .add Z16 Z17) [0,1],oQ 1 (.mv Z18) [2,0,1,2]]
def l165r8:List AOper :=
  [oQ 19 (.mv Z8) [],oQ 20 (.mv Z7) [],oQ 21 (.mv Z1) [],oQ 22 (.minmax true Z20 Z21) [1,2],oQ 23 (.minmax false Z19 Z22) [0,3],oQ 6 (.mv Z23) [4,0,1,2,3,4]]
def l165:AFn :=
  (AFn.mk 24 3 (.seq (.reg l165r0) (.seq (.reg l165r1) (.seq (.reg l165r2) (.seq (.seq (.reg l165r3) (.cond (.tmp 11) (.seq (.reg l165r4) (.reg l165r5)) .skip)) (.seq (.seq (.reg l165r6) (.cond (.tmp 15) (.reg l165r7) .skip)) (.seq (.reg l165r8) .ret)))))) [.tmp 6])
theorem l165_eq:lowFn Tryz.prog 165=some l165:=by kernel_rfl
def l177r0:List AOper :=
  [oQ 2 (.box Z0) [],oQ 4 (.alloc [.slice none 0 0,.slice none 0 0]) [],oQ 5 (.mv (.const (.bool false))) []]
def l177r1:List AOper :=
  [oQ 8 (.load true 2 Z2) [],oQ 9 (.call 47 [Z8]) [0],oQ 10 (.un .not Z9) [1],oQ 11 (.mv Z10) [2,1],gQ 12 (.mv Z1) (some (11,false)) [3],gQ 13 (.call 60 [Z12,.const (.int .i64 0),.const (.int .i64 60)]) (some (11,false)) [4,3,3],gQ 14 (.un .not Z13) (some (11,false)) [5,3],oQ 15 (.pick Z11 (.const (.bool true)) Z14) [3,6],oQ 16 (.mv Z15) [7,5],gQ 17 (.load true 2 Z2) (some (16,false)) [8],gQ 18 (.call 160 [Z17]) (some (16,false)) [9,8,8],gQ 19 (.len Z18) (some (16,false)) [10,8],gQ 20 (.bin .gtr Z19 (.const (.int .i64 0))) (some (16,false)) [11,8],oQ 21 (.pick Z16 (.const (.bool true)) Z20) [8,12]]
def l177r2:List AOper :=
  [oQ 22 (.build [.slice none 0 0,.slice none 0 0] []) [],nQ (.store 2 Z4 Z22) [0,0],oQ 5 (.mv (.const (.bool false))) [1,0,1]]
def l177r3:List AOper :=
  [oQ 23 (.load true 2 Z2) [],oQ 24 (.call 50 [Z23]) [0],oQ 6 (.alloc [.slice none 0 0,.slice none 0 0]) [],nQ (.store 2 Z6 Z24) [2,1,1,0,1,2]]
def l177r4:List AOper :=
  [oQ 25 (.mv Z1) [],oQ 26 (.mkslice 1 [.int .i64 0] Z25 Z25) [0,0],oQ 27 (.fld 0 Z6) [0,1],nQ (.store 1 Z27 Z26) [2,1,0,1]]
def l177r5:List AOper :=
  [oQ 7 (.mv (.const (.int .i64 0))) []]
def l177r6:List AOper :=
  [oQ 28 (.mv Z7) [],oQ 29 (.mv Z1) [],oQ 30 (.bin .lss Z28 Z29) [0,1],oQ 31 (.mv Z30) [2],gQ 32 (.mv Z7) (some (31,true)) [3],gQ 33 (.fld 0 Z2) (some (31,true)) [3],gQ 34 (.load false 1 Z33) (some (31,true)) [5,3],gQ 35 (.len Z34) (some (31,true)) [6,3],gQ 36 (.bin .lss Z32 Z35) (some (31,true)) [4,7,3],oQ 37 (.pick Z31 Z36 (.const (.bool false))) [3,8]]
def l177r7a:List AOper :=
  [oQ 40 (.fld 0 Z6) [],oQ 41 (.load false 1 Z40) [0],oQ 42 (.mv Z7) [],oQ 43 (.fld 0 Z2) [],oQ 44 (.load false 1 Z43) [3],oQ 45 (.mv Z7) [],oQ 46 (.idxA 1 Z44 Z45) [4,5],oQ 47 (.load false 1 Z46) [6]]
def l177r7b:List AOper :=
  [oQ 48 (.idxA 1 Z41 Z42) [1,2,0,1,2,3,4,5,6,7],nQ (.store 1 Z48 Z47) [8,7,0,1,2,3,4,5,6,7]]
def l177r7:List AOper:=l177r7a ++ l177r7b
def l177r8:List AOper :=
  [oQ 38 (.mv Z7) [],oQ 39 (.bin .add Z38 (.const (.int .i64 1))) [0],oQ 7 (.mv Z39) [1,0,1]]
def l177r9:List AOper :=
  [oQ 49 (.load true 2 Z6) [],nQ (.store 2 Z4 Z49) [0,0],oQ 5 (.mv (.const (.bool true))) [1,0,1]]
def l177:AFn :=
  (AFn.mk 50 2 (.seq (.reg l177r0) (.seq (.seq (.reg l177r1) (.cond (.tmp 21) (.seq (.reg l177r2) .ret) .skip)) (.seq (.reg l177r3) (.seq (.reg l177r4) (.seq (.seq (.reg l177r5) (.block 0 (.loop (.seq (.seq (.reg l177r6) (.cond (.tmp 37) .skip (.exit 0))) (.seq (.block 1 (.draw l177r7)) (.reg l177r8)))))) (.seq (.reg l177r9) .ret)))))) [.cell 4 true 2,.tmp 5])
theorem l177_eq:lowFn Tryz.prog 177=some l177:=by kernel_rfl
end Go.Proofs.YtkpcjppnjmhanaaGreatDoor
