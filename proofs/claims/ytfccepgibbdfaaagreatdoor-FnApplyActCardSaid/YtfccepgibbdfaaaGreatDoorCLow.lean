import Derived.Test.YtfccepgibbdfaaaGreatDoorCW3
import Derived.Test.YtfccepgibbdfaaaGreatDoorProg
import Derived.KernelRfl
set_option maxRecDepth 100000
namespace Go.Proofs.YtfccepgibbdfaaaGreatDoor
open Vw Go
/-- Where the sentinel error lies. -/
class SentA where
 a:Addr
/-- The other tables. -/
class PowA where
 rest:List (Nat×List Value)
instance globs [PowA] [SentA]:Inhabited GlobT:=⟨⟨(1,[.string (ByteArray.mk (Array.mk [115,105,122,101])),.int .i64 1,.string (ByteArray.mk (Array.mk [118,105,101,119])),.int .i64 3,.string (ByteArray.mk (Array.mk [112,97,114,116])),.int .i64 4,.string (ByteArray.mk (Array.mk [102,108,105,112])),.int .i64 1,.string (ByteArray.mk (Array.mk [102,105,108,108])),.int .i64 2,.string (ByteArray.mk (Array.mk [99,111,112,121])),.int .i64 2,.string (ByteArray.mk (Array.mk [108,111,97,100])),.int .i64 1,.string (ByteArray.mk (Array.mk [102,114,101,101])),.int .i64 1])::(0,[.iface 202 (.pointer (some SentA.a))])::PowA.rest⟩⟩
attribute [push_cast] Bool.false_eq_true List.length_replicate
attribute [bitvec_to_nat] decide_eq_true_eq decide_eq_false_iff_not Bool.not_eq_true' Bool.not_eq_false' Bool.and_eq_true Bool.or_eq_true Bool.and_eq_false_iff Bool.or_eq_false_iff Int.not_le Int.not_lt bne_iff_ne ne_eq beq_iff_eq Bool.not_eq_true Bool.not_eq_false
theorem sd {P:Prop}(h:P:=by first|assumption|rfl|omega|(simp<;>omega)|(simp_all<;>omega)):P:=h
abbrev uQ (n:Nat):List Nat:=List.range n
abbrev oQ (d:Nat)(p:AOp)(a:List Nat):AOper:=⟨some d,p,none,a⟩
abbrev gQ (d:Nat)(p:AOp)(g:Option (Nat×Bool))(a:List Nat):AOper:=⟨some d,p,g,a⟩
abbrev nQ (p:AOp)(a:List Nat):AOper:=⟨none,p,none,a⟩
abbrev Z0:=Operand.tmp 0
abbrev Z1:=Operand.tmp 1
abbrev Z2:=Operand.tmp 2
abbrev Z3:=Operand.tmp 3
abbrev Z4:=Operand.tmp 4
abbrev Z5:=Operand.tmp 5
abbrev Z6:=Operand.tmp 6
abbrev Z7:=Operand.tmp 7
abbrev Z8:=Operand.tmp 8
abbrev Z9:=Operand.tmp 9
abbrev Z10:=Operand.tmp 10
abbrev Z11:=Operand.tmp 11
abbrev Z12:=Operand.tmp 12
abbrev Z13:=Operand.tmp 13
abbrev Z14:=Operand.tmp 14
abbrev Z15:=Operand.tmp 15
abbrev Z16:=Operand.tmp 16
abbrev Z17:=Operand.tmp 17
abbrev Z18:=Operand.tmp 18
abbrev Z19:=Operand.tmp 19
abbrev Z20:=Operand.tmp 20
abbrev Z21:=Operand.tmp 21
abbrev Z22:=Operand.tmp 22
abbrev Z23:=Operand.tmp 23
abbrev Z24:=Operand.tmp 24
abbrev Z25:=Operand.tmp 25
abbrev Z26:=Operand.tmp 26
abbrev Z27:=Operand.tmp 27
abbrev Z28:=Operand.tmp 28
abbrev Z29:=Operand.tmp 29
abbrev Z30:=Operand.tmp 30
abbrev Z31:=Operand.tmp 31
abbrev Z32:=Operand.tmp 32
abbrev Z33:=Operand.tmp 33
abbrev Z34:=Operand.tmp 34
abbrev Z35:=Operand.tmp 35
abbrev Z36:=Operand.tmp 36
abbrev Z37:=Operand.tmp 37
abbrev Z38:=Operand.tmp 38
abbrev Z39:=Operand.tmp 39
abbrev Z40:=Operand.tmp 40
abbrev Z41:=Operand.tmp 41
abbrev Z42:=Operand.tmp 42
abbrev Z43:=Operand.tmp 43
abbrev Z44:=Operand.tmp 44
abbrev Z45:=Operand.tmp 45
abbrev Z46:=Operand.tmp 46
abbrev Z47:=Operand.tmp 47
abbrev Z48:=Operand.tmp 48
abbrev Z49:=Operand.tmp 49
abbrev Z50:=Operand.tmp 50
abbrev Z51:=Operand.tmp 51
abbrev Z52:=Operand.tmp 52
abbrev Z53:=Operand.tmp 53
abbrev Z54:=Operand.tmp 54
abbrev Z55:=Operand.tmp 55
abbrev Z56:=Operand.tmp 56
abbrev Z57:=Operand.tmp 57
abbrev Z58:=Operand.tmp 58
abbrev Z59:=Operand.tmp 59
abbrev Z60:=Operand.tmp 60
abbrev Z61:=Operand.tmp 61
abbrev Z62:=Operand.tmp 62
abbrev Z63:=Operand.tmp 63
abbrev Z64:=Operand.tmp 64
abbrev Z65:=Operand.tmp 65
abbrev Z66:=Operand.tmp 66
abbrev Z67:=Operand.tmp 67
abbrev Z68:=Operand.tmp 68
abbrev Z69:=Operand.tmp 69
abbrev Z70:=Operand.tmp 70
abbrev Z71:=Operand.tmp 71
abbrev Z72:=Operand.tmp 72
abbrev Z73:=Operand.tmp 73
abbrev Z74:=Operand.tmp 74
abbrev Z75:=Operand.tmp 75
abbrev Z76:=Operand.tmp 76
abbrev Z77:=Operand.tmp 77
abbrev Z78:=Operand.tmp 78
abbrev Z79:=Operand.tmp 79
abbrev Z80:=Operand.tmp 80
abbrev Z81:=Operand.tmp 81
abbrev Z82:=Operand.tmp 82
abbrev Z83:=Operand.tmp 83
abbrev Z84:=Operand.tmp 84
abbrev Z85:=Operand.tmp 85
abbrev Z86:=Operand.tmp 86
abbrev Z87:=Operand.tmp 87
abbrev Z88:=Operand.tmp 88
abbrev Z89:=Operand.tmp 89
abbrev Z90:=Operand.tmp 90
abbrev Z91:=Operand.tmp 91
abbrev Z92:=Operand.tmp 92
abbrev Z93:=Operand.tmp 93
abbrev Z94:=Operand.tmp 94
abbrev Z95:=Operand.tmp 95
abbrev Z96:=Operand.tmp 96
abbrev Z97:=Operand.tmp 97
abbrev Z98:=Operand.tmp 98
abbrev Z99:=Operand.tmp 99
abbrev Z100:=Operand.tmp 100
abbrev Z101:=Operand.tmp 101
abbrev Z102:=Operand.tmp 102
abbrev Z103:=Operand.tmp 103
abbrev Z104:=Operand.tmp 104
abbrev Z105:=Operand.tmp 105
abbrev Z106:=Operand.tmp 106
abbrev Z107:=Operand.tmp 107
abbrev Z108:=Operand.tmp 108
abbrev Z109:=Operand.tmp 109
abbrev Z110:=Operand.tmp 110
abbrev Z111:=Operand.tmp 111
abbrev Z112:=Operand.tmp 112
def l4r0:List AOper :=
 [oQ 2 (.mv (.const (.bool false))) []]
def l4r1:List AOper :=
 [oQ 9 (.mv Z0) [],oQ 10 (.len Z9) [0],oQ 11 (.bin .gtr Z10 (.const (.int .i64 1048576))) [1]]
def l4r2:List AOper :=
 [oQ 2 (.mv (.const (.bool true))) []]
def l4r3:List AOper :=
 [oQ 13 (.mv Z0) [],oQ 14 (.call 17 [Z13]) [0],oQ 12 (.mv Z14) [1],oQ 15 (.extract Z12 0) [2],oQ 16 (.extract Z12 1) [2],oQ 3 (.alloc [.slice none 0 0,.slice none 0 0]) [],oQ 4 (.alloc [.int .i64 0,.slice none 0 0]) [],nQ (.store 2 Z3 Z15) [5,3,1,0,1,2,3,5,6],nQ (.store 2 Z4 Z16) (6::4::7::uQ 8)]
def l4r4:List AOper :=
 [oQ 18 (.load true 2 Z3) [],oQ 19 (.load true 2 Z4) [],oQ 20 (.call 11 [Z18,Z19]) [0,1],oQ 17 (.mv Z20) [2],oQ 21 (.extract Z17 0) [3],oQ 22 (.extract Z17 1) [3],oQ 5 (.alloc [.slice none 0 0,.slice none 0 0]) [],nQ (.store 2 Z5 Z21) [6,4,2,0,1,2,3,4,6],oQ 6 (.mv Z22) (5::7::uQ 8)]
def l4r5:List AOper :=
 [oQ 24 (.load true 2 Z3) [],oQ 25 (.load true 2 Z4) [],oQ 26 (.call 8 [Z24,Z25]) [0,1],oQ 23 (.mv Z26) [2],oQ 27 (.extract Z23 0) [3],oQ 28 (.extract Z23 1) [3],oQ 7 (.alloc [.slice none 0 0,.slice none 0 0]) [],nQ (.store 2 Z7 Z27) [6,4,2,0,1,2,3,4,6],oQ 8 (.mv Z28) (5::7::uQ 8)]
def l4r6:List AOper :=
 [oQ 29 (.load true 2 Z5) [],oQ 30 (.load true 2 Z7) [],oQ 31 (.call 18 [Z29,Z30]) [0,1],oQ 32 (.un .not Z31) [2],oQ 33 (.mv Z32) [3,2],gQ 34 (.mv Z6) (some (33,false)) [4],gQ 35 (.mv Z8) (some (33,false)) [4],gQ 36 (.bin .neq Z34 Z35) (some (33,false)) [5,6,4],oQ 37 (.pick Z33 (.const (.bool true)) Z36) [4,7],oQ 38 (.mv Z37) [8,4],gQ 39 (.mv Z6) (some (38,false)) [9],gQ 40 (.bin .eql Z39 (.const (.string (ByteArray.mk (Array.mk []))))) (some (38,false)) [10,9],oQ 41 (.pick Z38 (.const (.bool true)) Z40) [9,11]]
def l4r7:List AOper :=
 [oQ 42 (.load true 2 Z5) [],oQ 43 (.load true 2 Z7) [],oQ 44 (.call 18 [Z42,Z43]) [0,1],oQ 45 (.mv Z44) [2,2],gQ 46 (.mv Z6) (some (45,true)) [3],gQ 47 (.mv Z8) (some (45,true)) [3],gQ 48 (.bin .eql Z46 Z47) (some (45,true)) [4,5,3],oQ 49 (.pick Z45 Z48 (.const (.bool false))) [3,6],oQ 2 (.mv Z49) (7::3::uQ 8)]
def l4r8:List AOper :=
 [oQ 50 (.load true 2 Z5) [],oQ 51 (.call 19 [Z50]) [0],oQ 52 (.mv Z51) [1,1],gQ 53 (.mv Z6) (some (52,true)) [2],gQ 54 (.bin .neq Z53 (.const (.string (ByteArray.mk (Array.mk [(110:UInt8),(111:UInt8)]))))) (some (52,true)) [3,2],gQ 55 (.mv Z54) (some (52,true)) [4,2,2],gQ 56 (.fld 0 Z4) (some (55,true)) [5],gQ 57 (.load false 1 Z56) (some (55,true)) [6,5],gQ 58 (.bin .neq Z57 (.const (.int .i64 6))) (some (55,true)) [7,5],gQ 59 (.pick Z55 Z58 (.const (.bool false))) (some (52,true)) [5,8,2],gQ 60 (.mv Z59) (some (52,true)) [9,5,2],gQ 61 (.load true 2 Z5) (some (60,false)) [10],gQ 62 (.load true 2 Z3) (some (60,false)) [10],gQ 63 (.call 18 [Z61,Z62]) (some (60,false)) [11,12,10,10],gQ 64 (.pick Z60 (.const (.bool true)) Z63) (some (52,true)) [10,13,2],oQ 65 (.pick Z52 Z64 (.const (.bool false))) [2,14],oQ 2 (.mv Z65) (15::13::uQ 16)]
def l4:AFn :=
 (AFn.mk 66 1 (.seq (.reg l4r0) (.seq (.seq (.reg l4r1) (.cond (.tmp 11) (.seq (.reg l4r2) .ret) .skip)) (.seq (.reg l4r3) (.seq (.reg l4r4) (.seq (.reg l4r5) (.seq (.seq (.reg l4r6) (.cond (.tmp 41) (.seq (.reg l4r7) .ret) .skip)) (.seq (.reg l4r8) .ret))))))) [.tmp 2])
theorem l4_eq:lowFn Tryz.prog 4=some l4:=by kernel_rfl
def l5r0:List AOper :=
 [oQ 2 (.mv (.const (.bool false))) []]
def l5r1:List AOper :=
 [oQ 11 (.mv Z0) [],oQ 12 (.len Z11) [0],oQ 13 (.bin .gtr Z12 (.const (.int .i64 1048576))) [1]]
def l5r2:List AOper :=
 [oQ 2 (.mv (.const (.bool true))) []]
def l5r3:List AOper :=
 [oQ 15 (.mv Z0) [],oQ 16 (.call 17 [Z15]) [0],oQ 14 (.mv Z16) [1],oQ 17 (.extract Z14 0) [2],oQ 18 (.extract Z14 1) [2],oQ 3 (.alloc [.slice none 0 0,.slice none 0 0]) [],oQ 4 (.alloc [.int .i64 0,.slice none 0 0]) [],nQ (.store 2 Z3 Z17) [5,3,1,0,1,2,3,5,6],nQ (.store 2 Z4 Z18) (6::4::7::uQ 8)]
def l5r4:List AOper :=
 [oQ 20 (.load true 2 Z3) [],oQ 21 (.load true 2 Z4) [],oQ 22 (.call 11 [Z20,Z21]) [0,1],oQ 19 (.mv Z22) [2],oQ 23 (.extract Z19 0) [3],oQ 24 (.extract Z19 1) [3],oQ 5 (.alloc [.slice none 0 0,.slice none 0 0]) [],nQ (.store 2 Z5 Z23) [6,4,2,0,1,2,3,4,6],oQ 6 (.mv Z24) (5::7::uQ 8)]
def l5r5:List AOper :=
 [oQ 26 (.load true 2 Z3) [],oQ 27 (.load true 2 Z4) [],oQ 28 (.call 8 [Z26,Z27]) [0,1],oQ 25 (.mv Z28) [2],oQ 29 (.extract Z25 0) [3],oQ 30 (.extract Z25 1) [3],oQ 7 (.alloc [.slice none 0 0,.slice none 0 0]) [],nQ (.store 2 Z7 Z29) [6,4,2,0,1,2,3,4,6],oQ 8 (.mv Z30) (5::7::uQ 8)]
def l5r6:List AOper :=
 [oQ 31 (.load true 2 Z5) [],oQ 32 (.load true 2 Z7) [],oQ 33 (.call 18 [Z31,Z32]) [0,1],oQ 34 (.un .not Z33) [2],oQ 35 (.mv Z34) [3,2],gQ 36 (.mv Z6) (some (35,false)) [4],gQ 37 (.mv Z8) (some (35,false)) [4],gQ 38 (.bin .neq Z36 Z37) (some (35,false)) [5,6,4],oQ 39 (.pick Z35 (.const (.bool true)) Z38) [4,7],oQ 40 (.mv Z39) [8,4],gQ 41 (.mv Z6) (some (40,false)) [9],gQ 42 (.bin .eql Z41 (.const (.string (ByteArray.mk (Array.mk []))))) (some (40,false)) [10,9],oQ 43 (.pick Z40 (.const (.bool true)) Z42) [9,11]]
def l5r7:List AOper :=
 [oQ 44 (.load true 2 Z5) [],oQ 45 (.load true 2 Z7) [],oQ 46 (.call 18 [Z44,Z45]) [0,1],oQ 47 (.mv Z46) [2,2],gQ 48 (.mv Z6) (some (47,true)) [3],gQ 49 (.mv Z8) (some (47,true)) [3],gQ 50 (.bin .eql Z48 Z49) (some (47,true)) [4,5,3],oQ 51 (.pick Z47 Z50 (.const (.bool false))) [3,6],oQ 2 (.mv Z51) (7::3::uQ 8)]
def l5r8:List AOper :=
 [oQ 52 (.load true 2 Z5) [],oQ 53 (.call 20 [Z52]) [0],oQ 9 (.mv Z53) [1,1,0,1]]
def l5r9:List AOper :=
 [oQ 10 (.mv (.const (.int .i64 0))) []]
def l5r10:List AOper :=
 [oQ 54 (.mv Z10) [],oQ 55 (.mv Z9) [],oQ 56 (.len Z55) [1],oQ 57 (.bin .lss Z54 Z56) [0,2]]
def l5r11a:List AOper :=
 [oQ 60 (.fld 1 Z5) [],oQ 61 (.load false 1 Z60) [0],oQ 62 (.mv Z9) [],oQ 63 (.mv Z10) [],oQ 64 (.idxA 1 Z62 Z63) [2,3],oQ 65 (.load false 1 Z64) [4],oQ 66 (.idxA 5 Z61 Z65) [1,5],oQ 67 (.fld 1 Z66) [6],oQ 68 (.load true 3 Z67) [7],oQ 69 (.fld 0 Z5) [],oQ 70 (.load false 1 Z69) [9],oQ 71 (.len Z70) [10],oQ 72 (.call 21 [Z68,Z71]) [8,11],oQ 73 (.un .not Z72) [12],oQ 74 (.mv Z73) [13,12],gQ 75 (.mv Z9) (some (74,false)) [14],gQ 76 (.mv Z10) (some (74,false)) [14],gQ 77 (.idxA 1 Z75 Z76) (some (74,false)) [15,16,14],gQ 78 (.load false 1 Z77) (some (74,false)) [17,14],gQ 79 (.fld 1 Z3) (some (74,false)) [14],gQ 80 (.load false 1 Z79) (some (74,false)) [19,14],gQ 81 (.len Z80) (some (74,false)) [20,14],gQ 82 (.bin .lss Z78 Z81) (some (74,false)) [18,21,14],gQ 83 (.mv Z82) (some (74,false)) [22,14,14],gQ 84 (.fld 1 Z3) (some (83,true)) [23],gQ 85 (.load false 1 Z84) (some (83,true)) [24,23],gQ 86 (.mv Z9) (some (83,true)) [23],gQ 87 (.mv Z10) (some (83,true)) [23],gQ 88 (.idxA 1 Z86 Z87) (some (83,true)) [26,27,23],gQ 89 (.load false 1 Z88) (some (83,true)) [28,23]]
def l5r11b:List AOper :=
 [gQ 90 (.idxA 5 Z85 Z89) (some (83,true)) [25,29,23],gQ 91 (.fld 4 Z90) (some (83,true)) [30,23],gQ 92 (.load false 1 Z91) (some (83,true)) [31,23],gQ 93 (.un .not Z92) (some (83,true)) [32,23],gQ 94 (.pick Z83 Z93 (.const (.bool false))) (some (74,false)) [23,33,14],oQ 95 (.pick Z74 (.const (.bool true)) Z94) [14,34]]
def l5r11:List AOper:=l5r11a++l5r11b
def l5r12:List AOper :=
 [oQ 2 (.mv (.const (.bool false))) []]
def l5r13:List AOper :=
 [oQ 58 (.mv Z10) [],oQ 59 (.bin .add Z58 (.const (.int .i64 1))) [0],oQ 10 (.mv Z59) [1,0,1]]
def l5r14:List AOper :=
 [oQ 96 (.fld 1 Z5) [],oQ 97 (.load false 1 Z96) [0],oQ 98 (.len Z97) [1],oQ 99 (.fld 1 Z3) [],oQ 100 (.load false 1 Z99) [3],oQ 101 (.len Z100) [4],oQ 102 (.bin .geq Z98 Z101) [2,5],oQ 103 (.mv Z102) [6],gQ 104 (.fld 1 Z5) (some (103,true)) [7],gQ 105 (.load false 1 Z104) (some (103,true)) [8,7],gQ 106 (.len Z105) (some (103,true)) [9,7],gQ 107 (.fld 1 Z3) (some (103,true)) [7],gQ 108 (.load false 1 Z107) (some (103,true)) [11,7],gQ 109 (.len Z108) (some (103,true)) [12,7],gQ 110 (.bin .add Z109 (.const (.int .i64 1))) (some (103,true)) [13,7],gQ 111 (.bin .leq Z106 Z110) (some (103,true)) [10,14,7],oQ 112 (.pick Z103 Z111 (.const (.bool false))) [7,15],oQ 2 (.mv Z112) (16::7::uQ 17)]
def l5:AFn :=
 (AFn.mk 113 1 (.seq (.reg l5r0) (.seq (.seq (.reg l5r1) (.cond (.tmp 13) (.seq (.reg l5r2) .ret) .skip)) (.seq (.reg l5r3) (.seq (.reg l5r4) (.seq (.reg l5r5) (.seq (.seq (.reg l5r6) (.cond (.tmp 43) (.seq (.reg l5r7) .ret) .skip)) (.seq (.reg l5r8) (.seq (.seq (.reg l5r9) (.block 0 (.loop (.seq (.seq (.reg l5r10) (.cond (.tmp 57) .skip (.exit 0))) (.seq (.block 1 (.seq (.draw l5r11) (.cond (.tmp 95) (.seq (.reg l5r12) .ret) .skip))) (.reg l5r13)))))) (.seq (.reg l5r14) .ret))))))))) [.tmp 2])
theorem l5_eq:lowFn Tryz.prog 5=some l5:=by kernel_rfl
def l8r0:List AOper :=
 [oQ 2 (.box Z0) [],oQ 3 (.box Z1) [],oQ 4 (.alloc [.slice none 0 0,.slice none 0 0]) [],oQ 5 (.mv (.const (.string (ByteArray.mk (Array.mk []))))) []]
def l8r1:List AOper :=
 [oQ 8 (.load true 2 Z2) [],oQ 9 (.call 24 [Z8]) [0],oQ 10 (.un .not Z9) [1],oQ 11 (.mv Z10) [2,1],gQ 12 (.load true 2 Z3) (some (11,false)) [3],gQ 13 (.call 25 [Z12]) (some (11,false)) [4,3,3],gQ 14 (.un .not Z13) (some (11,false)) [5,3],oQ 15 (.pick Z11 (.const (.bool true)) Z14) [3,6]]
def l8r2:List AOper :=
 [oQ 16 (.build [.slice none 0 0,.slice none 0 0] []) [],nQ (.store 2 Z4 Z16) [0,0],oQ 5 (.mv (.const (.string (ByteArray.mk (Array.mk []))))) [1,0,1]]
def l8r3:List AOper :=
 [oQ 18 (.load true 2 Z2) [],oQ 19 (.load true 2 Z3) [],oQ 20 (.call 26 [Z18,Z19]) [0,1],oQ 17 (.mv Z20) [2],oQ 21 (.extract Z17 0) [3],oQ 22 (.extract Z17 1) [3],oQ 6 (.alloc [.slice none 0 0,.slice none 0 0]) [],nQ (.store 2 Z6 Z21) [6,4,2,0,1,2,3,4,6],oQ 7 (.mv Z22) (5::7::uQ 8)]
def l8r4:List AOper :=
 [oQ 23 (.load true 2 Z6) [],oQ 24 (.call 27 [Z23]) [0],oQ 25 (.mv Z7) [],nQ (.store 2 Z4 Z24) [1,1,0,1],oQ 5 (.mv Z25) [2,3,0,1,2,3]]
def l8:AFn :=
 (AFn.mk 26 2 (.seq (.reg l8r0) (.seq (.seq (.reg l8r1) (.cond (.tmp 15) (.seq (.reg l8r2) .ret) .skip)) (.seq (.reg l8r3) (.seq (.reg l8r4) .ret)))) [.cell 4 true 2,.tmp 5])
theorem l8_eq:lowFn Tryz.prog 8=some l8:=by kernel_rfl
def l11r0:List AOper :=
 [oQ 2 (.box Z0) [],oQ 3 (.box Z1) [],oQ 4 (.alloc [.slice none 0 0,.slice none 0 0]) [],oQ 5 (.mv (.const (.string (ByteArray.mk (Array.mk []))))) []]
def l11r1:List AOper :=
 [oQ 8 (.load true 2 Z2) [],oQ 9 (.call 19 [Z8]) [0],oQ 10 (.un .not Z9) [1],oQ 11 (.mv Z10) [2,1],gQ 12 (.load true 2 Z3) (some (11,false)) [3],gQ 13 (.call 30 [Z12]) (some (11,false)) [4,3,3],gQ 14 (.un .not Z13) (some (11,false)) [5,3],oQ 15 (.pick Z11 (.const (.bool true)) Z14) [3,6]]
def l11r2:List AOper :=
 [oQ 16 (.build [.slice none 0 0,.slice none 0 0] []) [],nQ (.store 2 Z4 Z16) [0,0],oQ 5 (.mv (.const (.string (ByteArray.mk (Array.mk []))))) [1,0,1]]
def l11r3:List AOper :=
 [oQ 18 (.load true 2 Z2) [],oQ 19 (.load true 2 Z3) [],oQ 20 (.call 31 [Z18,Z19]) [0,1],oQ 17 (.mv Z20) [2],oQ 21 (.extract Z17 0) [3],oQ 22 (.extract Z17 1) [3],oQ 6 (.alloc [.slice none 0 0,.slice none 0 0]) [],nQ (.store 2 Z6 Z21) [6,4,2,0,1,2,3,4,6],oQ 7 (.mv Z22) (5::7::uQ 8)]
def l11r4:List AOper :=
 [oQ 23 (.mv Z7) [],oQ 24 (.un .not Z23) [0]]
def l11r5:List AOper :=
 [oQ 25 (.load true 2 Z2) [],oQ 26 (.call 32 [Z25]) [0],nQ (.store 2 Z4 Z26) [1,1,0,1],oQ 5 (.mv (.const (.string (ByteArray.mk (Array.mk [(110:UInt8),(111:UInt8)]))))) [2,0,1,2]]
def l11r6a:List AOper :=
 [oQ 27 (.load true 2 Z6) [],oQ 28 (.load true 2 Z6) [],oQ 29 (.load true 2 Z3) [],oQ 30 (.call 33 [Z28,Z29]) [1,2]]
def l11r6b:List AOper :=
 [nQ (.store 2 Z4 Z27) [0,3,0],oQ 5 (.mv Z30) (3::4::uQ 5)]
def l11r6:List AOper:=l11r6a++l11r6b
def l11:AFn :=
 (AFn.mk 31 2 (.seq (.reg l11r0) (.seq (.seq (.reg l11r1) (.cond (.tmp 15) (.seq (.reg l11r2) .ret) .skip)) (.seq (.reg l11r3) (.seq (.seq (.reg l11r4) (.cond (.tmp 24) (.seq (.reg l11r5) .ret) .skip)) (.seq (.draw l11r6) .ret))))) [.cell 4 true 2,.tmp 5])
theorem l11_eq:lowFn Tryz.prog 11=some l11:=by kernel_rfl
def l17r0:List AOper :=
 [oQ 2 (.alloc [.slice none 0 0,.slice none 0 0]) [],oQ 3 (.alloc [.int .i64 0,.slice none 0 0]) []]
def l17r1:List AOper :=
 [oQ 6 (.mv Z0) [],oQ 7 (.call 40 [Z6]) [0],oQ 4 (.mv Z7) [1,1,0,1]]
def l17r2:List AOper :=
 [oQ 8 (.mv Z4) [],oQ 9 (.call 41 [Z8]) [0],oQ 5 (.alloc [.slice none 0 0,.slice none 0 0]) [],nQ (.store 2 Z5 Z9) [2,1,1,0,1,2]]
def l17r3a:List AOper :=
 [oQ 10 (.load true 2 Z5) [],oQ 11 (.mv Z4) [],oQ 12 (.load true 2 Z5) [],oQ 13 (.call 42 [Z11,Z12]) [1,2]]
def l17r3b:List AOper :=
 [nQ (.store 2 Z2 Z10) [0,3,0],nQ (.store 2 Z3 Z13) (3::4::uQ 5)]
def l17r3:List AOper:=l17r3a++l17r3b
def l17:AFn :=
 (AFn.mk 14 1 (.seq (.reg l17r0) (.seq (.reg l17r1) (.seq (.reg l17r2) (.seq (.draw l17r3) .ret)))) [.cell 2 true 2,.cell 3 true 2])
theorem l17_eq:lowFn Tryz.prog 17=some l17:=by kernel_rfl
def l18r0:List AOper :=
 [oQ 2 (.box Z0) [],oQ 3 (.box Z1) [],oQ 4 (.mv (.const (.bool false))) []]
def l18r1:List AOper :=
 [oQ 8 (.fld 0 Z2) [],oQ 9 (.load false 1 Z8) [0],oQ 10 (.fld 0 Z3) [],oQ 11 (.load false 1 Z10) [2],oQ 12 (.call 43 [Z9,Z11]) [1,3],oQ 13 (.un .not Z12) [4],oQ 14 (.mv Z13) [5,4],gQ 15 (.fld 1 Z2) (some (14,false)) [6],gQ 16 (.load false 1 Z15) (some (14,false)) [7,6],gQ 17 (.len Z16) (some (14,false)) [8,6],gQ 18 (.fld 1 Z3) (some (14,false)) [6],gQ 19 (.load false 1 Z18) (some (14,false)) [10,6],gQ 20 (.len Z19) (some (14,false)) [11,6],gQ 21 (.bin .neq Z17 Z20) (some (14,false)) [9,12,6],oQ 22 (.pick Z14 (.const (.bool true)) Z21) [6,13]]
def l18r2:List AOper :=
 [oQ 4 (.mv (.const (.bool false))) []]
def l18r3:List AOper :=
 [oQ 5 (.mv (.const (.int .i64 0))) []]
def l18r4:List AOper :=
 [oQ 23 (.mv Z5) [],oQ 24 (.fld 1 Z2) [],oQ 25 (.load false 1 Z24) [1],oQ 26 (.len Z25) [2],oQ 27 (.bin .lss Z23 Z26) [0,3]]
def l18r5:List AOper :=
 [oQ 30 (.fld 1 Z2) [],oQ 31 (.load false 1 Z30) [0],oQ 32 (.mv Z5) [],oQ 33 (.idxA 5 Z31 Z32) [1,2],oQ 34 (.load true 5 Z33) [3],oQ 6 (.alloc [.int .i64 0,.int .i64 0,.slice none 0 0,.slice none 0 0,.bool false]) [],nQ (.store 5 Z6 Z34) (5::4::uQ 6)]
def l18r6:List AOper :=
 [oQ 35 (.fld 1 Z3) [],oQ 36 (.load false 1 Z35) [0],oQ 37 (.mv Z5) [],oQ 38 (.idxA 5 Z36 Z37) [1,2],oQ 39 (.load true 5 Z38) [3],oQ 7 (.alloc [.int .i64 0,.int .i64 0,.slice none 0 0,.slice none 0 0,.bool false]) [],nQ (.store 5 Z7 Z39) (5::4::uQ 6)]
def l18r7:List AOper :=
 [oQ 40 (.fld 0 Z6) [],oQ 41 (.load false 1 Z40) [0],oQ 42 (.fld 0 Z7) [],oQ 43 (.load false 1 Z42) [2],oQ 44 (.bin .neq Z41 Z43) [1,3],oQ 45 (.mv Z44) [4],gQ 46 (.fld 4 Z6) (some (45,false)) [5],gQ 47 (.load false 1 Z46) (some (45,false)) [6,5],gQ 48 (.fld 4 Z7) (some (45,false)) [5],gQ 49 (.load false 1 Z48) (some (45,false)) [8,5],gQ 50 (.binB .neq Z47 Z49) (some (45,false)) [7,9,5],oQ 51 (.pick Z45 (.const (.bool true)) Z50) [5,10],oQ 52 (.mv Z51) [11,5],gQ 53 (.fld 1 Z6) (some (52,false)) [12],gQ 54 (.load true 3 Z53) (some (52,false)) [13,12],gQ 55 (.fld 1 Z7) (some (52,false)) [12],gQ 56 (.load true 3 Z55) (some (52,false)) [15,12],gQ 57 (.call 44 [Z54,Z56]) (some (52,false)) [14,16,12,12],gQ 58 (.un .not Z57) (some (52,false)) [17,12],oQ 59 (.pick Z52 (.const (.bool true)) Z58) [12,18]]
def l18r8:List AOper :=
 [oQ 4 (.mv (.const (.bool false))) []]
def l18r9:List AOper :=
 [oQ 28 (.mv Z5) [],oQ 29 (.bin .add Z28 (.const (.int .i64 1))) [0],oQ 5 (.mv Z29) [1,0,1]]
def l18r10:List AOper :=
 [oQ 4 (.mv (.const (.bool true))) []]
def l18:AFn :=
 (AFn.mk 60 2 (.seq (.reg l18r0) (.seq (.seq (.reg l18r1) (.cond (.tmp 22) (.seq (.reg l18r2) .ret) .skip)) (.seq (.seq (.reg l18r3) (.block 0 (.loop (.seq (.seq (.reg l18r4) (.cond (.tmp 27) .skip (.exit 0))) (.seq (.block 1 (.seq (.reg l18r5) (.seq (.reg l18r6) (.seq (.reg l18r7) (.cond (.tmp 59) (.seq (.reg l18r8) .ret) .skip))))) (.reg l18r9)))))) (.seq (.reg l18r10) .ret)))) [.tmp 4])
theorem l18_eq:lowFn Tryz.prog 18=some l18:=by kernel_rfl
def l19r0:List AOper :=
 [oQ 1 (.box Z0) [],oQ 2 (.mv (.const (.bool false))) []]
def l19r1:List AOper :=
 [oQ 7 (.fld 0 Z1) [],oQ 8 (.load false 1 Z7) [0],oQ 9 (.call 45 [Z8]) [1],oQ 10 (.un .not Z9) [2],oQ 11 (.mv Z10) [3,2],gQ 12 (.fld 1 Z1) (some (11,false)) [4],gQ 13 (.load false 1 Z12) (some (11,false)) [5,4],gQ 14 (.len Z13) (some (11,false)) [6,4],gQ 15 (.bin .gtr Z14 (.const (.int .i64 8))) (some (11,false)) [7,4],oQ 16 (.pick Z11 (.const (.bool true)) Z15) [4,8]]
def l19r2:List AOper :=
 [oQ 2 (.mv (.const (.bool false))) []]
def l19r3:List AOper :=
 [oQ 17 (.fld 1 Z1) [],oQ 18 (.load false 1 Z17) [0],oQ 19 (.len Z18) [1],oQ 20 (.mv (.const (.int .i64 0))) []]
def l19r4:List AOper :=
 [oQ 21 (.bin .lss Z20 Z19) []]
def l19r5:List AOper :=
 [oQ 22 (.mv Z20) [],oQ 23 (.idxA 5 Z18 Z20) [],oQ 24 (.load true 5 Z23) [1],oQ 4 (.alloc [.int .i64 0,.int .i64 0,.slice none 0 0,.slice none 0 0,.bool false]) [],oQ 3 (.mv Z22) [0,0,1,2,3],nQ (.store 5 Z4 Z24) (3::2::4::uQ 5)]
def l19r6:List AOper :=
 [oQ 25 (.load true 5 Z4) [],oQ 26 (.mv Z3) [],oQ 27 (.fld 0 Z1) [],oQ 28 (.load false 1 Z27) [2],oQ 29 (.len Z28) [3],oQ 30 (.call 46 [Z25,Z26,Z29]) [0,1,4],oQ 31 (.un .not Z30) [5]]
def l19r7:List AOper :=
 [oQ 2 (.mv (.const (.bool false))) []]
def l19r8:List AOper :=
 [oQ 32 (.bin .add Z20 (.const (.int .i64 1))) [],oQ 20 (.mv Z32) [0]]
def l19r9:List AOper :=
 [oQ 33 (.fld 1 Z1) [],oQ 34 (.load false 1 Z33) [0],oQ 35 (.len Z34) [1],oQ 36 (.mv (.const (.int .i64 0))) []]
def l19r10:List AOper :=
 [oQ 37 (.bin .lss Z36 Z35) []]
def l19r11:List AOper :=
 [oQ 38 (.mv Z36) [],oQ 39 (.idxA 5 Z34 Z36) [],oQ 40 (.load true 5 Z39) [1],oQ 6 (.alloc [.int .i64 0,.int .i64 0,.slice none 0 0,.slice none 0 0,.bool false]) [],oQ 5 (.mv Z38) [0,0,1,2,3],nQ (.store 5 Z6 Z40) (3::2::4::uQ 5)]
def l19r12a:List AOper :=
 [oQ 41 (.fld 4 Z6) [],oQ 42 (.load false 1 Z41) [0],oQ 43 (.un .not Z42) [1],oQ 44 (.mv Z43) [2],gQ 45 (.load true 2 Z1) (some (44,true)) [3],gQ 46 (.mv Z5) (some (44,true)) [3],gQ 47 (.call 48 [Z45,Z46]) (some (44,true)) [4,5,3,3],gQ 48 (.call 49 [Z47]) (some (44,true)) [6,6,3],gQ 49 (.load false 1 (.global 0)) (some (44,true)) [3]]
def l19r12b:List AOper :=
 [gQ 50 (.call 47 [Z48,Z49]) (some (44,true)) [7,8,7,3],oQ 51 (.pick Z44 Z50 (.const (.bool false))) [3,9]]
def l19r12:List AOper:=l19r12a++l19r12b
def l19r13:List AOper :=
 [oQ 2 (.mv (.const (.bool false))) []]
def l19r14:List AOper :=
 [oQ 52 (.bin .add Z36 (.const (.int .i64 1))) [],oQ 36 (.mv Z52) [0]]
def l19r15:List AOper :=
 [oQ 2 (.mv (.const (.bool true))) []]
def l19:AFn :=
 (AFn.mk 53 1 (.seq (.reg l19r0) (.seq (.seq (.reg l19r1) (.cond (.tmp 16) (.seq (.reg l19r2) .ret) .skip)) (.seq (.seq (.reg l19r3) (.block 0 (.loop (.seq (.reg l19r4) (.seq (.cond (.tmp 21) .skip (.exit 0)) (.seq (.block 1 (.seq (.reg l19r5) (.seq (.reg l19r6) (.cond (.tmp 31) (.seq (.reg l19r7) .ret) .skip)))) (.reg l19r8))))))) (.seq (.seq (.reg l19r9) (.block 2 (.loop (.seq (.reg l19r10) (.seq (.cond (.tmp 37) .skip (.exit 2)) (.seq (.block 3 (.seq (.reg l19r11) (.seq (.draw l19r12) (.cond (.tmp 51) (.seq (.reg l19r13) .ret) .skip)))) (.reg l19r14))))))) (.seq (.reg l19r15) .ret))))) [.tmp 2])
theorem l19_eq:lowFn Tryz.prog 19=some l19:=by kernel_rfl
def l20r0:List AOper :=
 [oQ 1 (.box Z0) [],oQ 2 (.mv (.const (.slice none 0 0))) []]
def l20r1:List AOper :=
 [oQ 6 (.load true 2 Z1) [],oQ 7 (.call 19 [Z6]) [0],oQ 8 (.un .not Z7) [1]]
def l20r2:List AOper :=
 [oQ 2 (.mv (.const (.slice none 0 0))) []]
def l20r3:List AOper :=
 [oQ 3 (.mv (.const (.slice none 0 0))) []]
def l20r4:List AOper :=
 [oQ 9 (.fld 1 Z1) [],oQ 10 (.load false 1 Z9) [0],oQ 11 (.len Z10) [1],oQ 12 (.mv (.const (.int .i64 0))) []]
def l20r5:List AOper :=
 [oQ 13 (.bin .lss Z12 Z11) []]
def l20r6:List AOper :=
 [oQ 14 (.mv Z12) [],oQ 15 (.idxA 5 Z10 Z12) [],oQ 16 (.load true 5 Z15) [1],oQ 5 (.alloc [.int .i64 0,.int .i64 0,.slice none 0 0,.slice none 0 0,.bool false]) [],oQ 4 (.mv Z14) [0,0,1,2,3],nQ (.store 5 Z5 Z16) (3::2::4::uQ 5)]
def l20r7:List AOper :=
 [oQ 17 (.fld 4 Z5) [],oQ 18 (.load false 1 Z17) [0]]
def l20r8:List AOper :=
 [oQ 19 (.mv Z3) [],oQ 20 (.mv Z4) [],oQ 21 (.bslice 1 [.int .i64 0] [(0,Z20)] 1) [1],oQ 22 (.append 1 Z19 Z21) [0,2],oQ 3 (.mv Z22) [3,3,0,1,2,3]]
def l20r9:List AOper :=
 [oQ 23 (.bin .add Z12 (.const (.int .i64 1))) [],oQ 12 (.mv Z23) [0]]
def l20r10:List AOper :=
 [oQ 24 (.mv Z3) [],oQ 2 (.mv Z24) [0,0]]
def l20:AFn :=
 (AFn.mk 25 1 (.seq (.reg l20r0) (.seq (.seq (.reg l20r1) (.cond (.tmp 8) (.seq (.reg l20r2) .ret) .skip)) (.seq (.reg l20r3) (.seq (.seq (.reg l20r4) (.block 0 (.loop (.seq (.reg l20r5) (.seq (.cond (.tmp 13) .skip (.exit 0)) (.seq (.block 1 (.seq (.reg l20r6) (.seq (.reg l20r7) (.cond (.tmp 18) (.reg l20r8) .skip)))) (.reg l20r9))))))) (.seq (.reg l20r10) .ret))))) [.tmp 2])
theorem l20_eq:lowFn Tryz.prog 20=some l20:=by kernel_rfl
def l21r0:List AOper :=
 [oQ 2 (.box Z0) [],oQ 4 (.mv (.const (.bool false))) []]
def l21r1:List AOper :=
 [oQ 7 (.load true 3 Z2) [],oQ 8 (.call 50 [Z7]) [0],oQ 9 (.un .not Z8) [1],oQ 10 (.mv Z9) [2,1],gQ 11 (.mv Z1) (some (10,false)) [3],gQ 12 (.call 51 [Z11,.const (.int .i64 60)]) (some (10,false)) [4,3,3],gQ 13 (.un .not Z12) (some (10,false)) [5,3],oQ 14 (.pick Z10 (.const (.bool true)) Z13) [3,6]]
def l21r2:List AOper :=
 [oQ 4 (.mv (.const (.bool false))) []]
def l21r3:List AOper :=
 [oQ 16 (.load true 3 Z2) [],oQ 17 (.call 52 [Z16]) [0],oQ 15 (.mv Z17) [1],oQ 18 (.extract Z15 0) [2],oQ 19 (.extract Z15 1) [2],oQ 5 (.mv Z18) [3,1,0,1,2,3],oQ 6 (.mv Z19) (4::5::uQ 6)]
def l21r4:List AOper :=
 [oQ 20 (.mv Z6) [],oQ 21 (.mv Z1) [],oQ 22 (.bin .lss Z20 Z21) [0,1],oQ 4 (.mv Z22) [2,0,1,2]]
def l21:AFn :=
 (AFn.mk 23 2 (.seq (.reg l21r0) (.seq (.seq (.reg l21r1) (.cond (.tmp 14) (.seq (.reg l21r2) .ret) .skip)) (.seq (.reg l21r3) (.seq (.reg l21r4) .ret)))) [.tmp 4])
theorem l21_eq:lowFn Tryz.prog 21=some l21:=by kernel_rfl
def l24r0:List AOper :=
 [oQ 1 (.box Z0) [],oQ 2 (.mv (.const (.bool false))) []]
def l24r1:List AOper :=
 [oQ 3 (.mv (.const (.int .i64 0))) []]
def l24r2:List AOper :=
 [oQ 4 (.mv Z3) [],oQ 5 (.fld 1 Z1) [],oQ 6 (.load false 1 Z5) [1],oQ 7 (.len Z6) [2],oQ 8 (.bin .lss Z4 Z7) [0,3]]
def l24r3:List AOper :=
 [oQ 11 (.load true 2 Z1) [],oQ 12 (.mv Z3) [],oQ 13 (.call 54 [Z11,Z12]) [0,1],oQ 14 (.un .not Z13) [2]]
def l24r4:List AOper :=
 [oQ 2 (.mv (.const (.bool false))) []]
def l24r5:List AOper :=
 [oQ 9 (.mv Z3) [],oQ 10 (.bin .add Z9 (.const (.int .i64 1))) [0],oQ 3 (.mv Z10) [1,0,1]]
def l24r6:List AOper :=
 [oQ 15 (.fld 0 Z1) [],oQ 16 (.load false 1 Z15) [0],oQ 17 (.call 55 [Z16]) [1],oQ 18 (.mv Z17) [2,2],gQ 19 (.fld 1 Z1) (some (18,true)) [3],gQ 20 (.load false 1 Z19) (some (18,true)) [4,3],gQ 21 (.len Z20) (some (18,true)) [5,3],gQ 22 (.bin .leq Z21 (.const (.int .i64 8))) (some (18,true)) [6,3],oQ 23 (.pick Z18 Z22 (.const (.bool false))) [3,7],oQ 2 (.mv Z23) (8::3::uQ 9)]
def l24:AFn :=
 (AFn.mk 24 1 (.seq (.reg l24r0) (.seq (.seq (.reg l24r1) (.block 0 (.loop (.seq (.seq (.reg l24r2) (.cond (.tmp 8) .skip (.exit 0))) (.seq (.block 1 (.seq (.reg l24r3) (.cond (.tmp 14) (.seq (.reg l24r4) .ret) .skip))) (.reg l24r5)))))) (.seq (.reg l24r6) .ret))) [.tmp 2])
theorem l24_eq:lowFn Tryz.prog 24=some l24:=by kernel_rfl
def l25r0:List AOper :=
 [oQ 1 (.box Z0) [],oQ 2 (.mv (.const (.bool false))) []]
def l25r1a:List AOper :=
 [oQ 3 (.fld 0 Z1) [],oQ 4 (.load false 1 Z3) [0],oQ 5 (.call 56 [Z4,.const (.int .i64 0),.const (.int .i64 7)]) [1],oQ 6 (.mv Z5) [2,2],gQ 7 (.fld 1 Z1) (some (6,true)) [3],gQ 8 (.load false 1 Z7) (some (6,true)) [4,3],gQ 9 (.len Z8) (some (6,true)) [5,3],gQ 10 (.fld 0 Z1) (some (6,true)) [3],gQ 11 (.load false 1 Z10) (some (6,true)) [7,3],gQ 12 (.call 57 [Z11]) (some (6,true)) [8,3,3]]
def l25r1b:List AOper :=
 [gQ 13 (.bin .eql Z9 Z12) (some (6,true)) [6,9,3],oQ 14 (.pick Z6 Z13 (.const (.bool false))) [3,10],oQ 15 (.mv Z14) [11,9],gQ 16 (.fld 1 Z1) (some (15,true)) [12],gQ 17 (.load false 1 Z16) (some (15,true)) [13,12],gQ 18 (.call 58 [Z17,.const (.int .i64 (-100)),.const (.int .i64 100)]) (some (15,true)) [14,12,12],oQ 19 (.pick Z15 Z18 (.const (.bool false))) [12,15],oQ 2 (.mv Z19) (16::15::uQ 17)]
def l25r1:List AOper:=l25r1a++l25r1b
def l25:AFn :=
 (AFn.mk 20 1 (.seq (.reg l25r0) (.seq (.draw l25r1) .ret)) [.tmp 2])
theorem l25_eq:lowFn Tryz.prog 25=some l25:=by kernel_rfl
def l26r0:List AOper :=
 [oQ 2 (.box Z0) [],oQ 3 (.box Z1) [],oQ 4 (.alloc [.slice none 0 0,.slice none 0 0]) [],oQ 5 (.mv (.const (.string (ByteArray.mk (Array.mk []))))) []]
def l26r1:List AOper :=
 [oQ 9 (.load true 2 Z2) [],oQ 10 (.load true 2 Z3) [],oQ 11 (.call 59 [Z9,Z10]) [0,1],oQ 8 (.mv Z11) [2],oQ 12 (.extract Z8 0) [3],oQ 13 (.extract Z8 1) [3],oQ 6 (.alloc [.slice none 0 0,.slice none 0 0]) [],nQ (.store 2 Z6 Z12) [6,4,2,0,1,2,3,4,6],oQ 7 (.mv Z13) (5::7::uQ 8)]
def l26r2:List AOper :=
 [oQ 15 (.mv Z7) [],oQ 16 (.un .not Z15) [0],oQ 14 (.mv Z16) [1]]
def l26r3:List AOper :=
 [oQ 17 (.load true 2 Z2) [],nQ (.store 2 Z4 Z17) [0,0],oQ 5 (.mv (.const (.string (ByteArray.mk (Array.mk [(110:UInt8),(111:UInt8)]))))) [1,0,1]]
def l26r4:List AOper :=
 [oQ 19 (.fld 0 Z3) [],oQ 20 (.load false 1 Z19) [0],oQ 21 (.bin .eql Z20 (.const (.int .i64 6))) [1],oQ 18 (.mv Z21) [2]]
def l26r5a:List AOper :=
 [oQ 22 (.load true 2 Z2) [],oQ 23 (.fld 0 Z2) [],oQ 24 (.load false 1 Z23) [1],oQ 25 (.fld 1 Z2) [],oQ 26 (.load false 1 Z25) [3],oQ 27 (.fld 1 Z3) [],oQ 28 (.load false 1 Z27) [5],oQ 29 (.idxA 1 Z28 (.const (.int .i64 0))) [6],oQ 30 (.load false 1 Z29) [7],oQ 31 (.idxA 5 Z26 Z30) [4,8],oQ 32 (.fld 1 Z31) [9],oQ 33 (.load true 3 Z32) [10],oQ 34 (.call 61 [Z24,Z33]) [2,11],oQ 35 (.call 60 [Z34]) [12,12],oQ 36 (.bin .add (.const (.string (ByteArray.mk (Array.mk [(104:UInt8),(97:UInt8),(115:UInt8)])))) Z35) [13],nQ (.store 2 Z4 Z22) [0,13,0]]
def l26r5b:List AOper :=
 [oQ 5 (.mv Z36) (14::15::uQ 16)]
def l26r5:List AOper:=l26r5a++l26r5b
def l26r6:List AOper :=
 [oQ 38 (.fld 0 Z3) [],oQ 39 (.load false 1 Z38) [0],oQ 40 (.bin .eql Z39 (.const (.int .i64 1))) [1],oQ 41 (.mv Z40) [2],gQ 42 (.fld 0 Z3) (some (41,false)) [3],gQ 43 (.load false 1 Z42) (some (41,false)) [4,3],gQ 44 (.bin .eql Z43 (.const (.int .i64 2))) (some (41,false)) [5,3],oQ 45 (.pick Z41 (.const (.bool true)) Z44) [3,6],oQ 46 (.mv Z45) [7,3],gQ 47 (.fld 0 Z3) (some (46,false)) [8],gQ 48 (.load false 1 Z47) (some (46,false)) [9,8],gQ 49 (.bin .eql Z48 (.const (.int .i64 3))) (some (46,false)) [10,8],oQ 50 (.pick Z46 (.const (.bool true)) Z49) [8,11],oQ 37 (.mv Z50) [12,8]]
def l26r7a:List AOper :=
 [oQ 51 (.load true 2 Z6) [],oQ 52 (.fld 1 Z6) [],oQ 53 (.load false 1 Z52) [1],oQ 54 (.len Z53) [2],oQ 55 (.bin .sub Z54 (.const (.int .i64 1))) [3],oQ 56 (.call 62 [Z55]) [4],oQ 57 (.bin .add (.const (.string (ByteArray.mk (Array.mk [(97:UInt8),(116:UInt8),(32:UInt8)])))) Z56) [5],nQ (.store 2 Z4 Z51) [0,5,0]]
def l26r7b:List AOper :=
 [oQ 5 (.mv Z57) (6::7::uQ 8)]
def l26r7:List AOper:=l26r7a++l26r7b
def l26r8:List AOper :=
 [oQ 58 (.load true 2 Z6) [],nQ (.store 2 Z4 Z58) [0,0],oQ 5 (.mv (.const (.string (ByteArray.mk (Array.mk [(111:UInt8),(107:UInt8)]))))) [1,0,1]]
def l26:AFn :=
 (AFn.mk 59 2 (.seq (.reg l26r0) (.seq (.reg l26r1) (.seq (.block 0 (.seq (.reg l26r2) (.cond (.tmp 14) (.seq (.reg l26r3) .ret) (.seq (.reg l26r4) (.cond (.tmp 18) (.seq (.draw l26r5) .ret) (.seq (.reg l26r6) (.cond (.tmp 37) (.seq (.draw l26r7) .ret) .skip))))))) (.seq (.reg l26r8) .ret)))) [.cell 4 true 2,.tmp 5])
theorem l26_eq:lowFn Tryz.prog 26=some l26:=by kernel_rfl
def l27r0:List AOper :=
 [oQ 1 (.box Z0) [],oQ 2 (.alloc [.slice none 0 0,.slice none 0 0]) []]
def l27r1:List AOper :=
 [oQ 6 (.fld 0 Z1) [],oQ 7 (.load false 1 Z6) [0],oQ 8 (.call 63 [Z7]) [1],oQ 9 (.build [.slice none 0 0,.slice none 0 0] [(0,1,Z8)]) [2],oQ 3 (.alloc [.slice none 0 0,.slice none 0 0]) [],nQ (.store 2 Z3 Z9) (4::3::2::uQ 5)]
def l27r2:List AOper :=
 [oQ 4 (.mv (.const (.int .i64 0))) []]
def l27r3:List AOper :=
 [oQ 10 (.mv Z4) [],oQ 11 (.fld 1 Z1) [],oQ 12 (.load false 1 Z11) [1],oQ 13 (.len Z12) [2],oQ 14 (.bin .lss Z10 Z13) [0,3]]
def l27r4:List AOper :=
 [oQ 17 (.fld 1 Z1) [],oQ 18 (.load false 1 Z17) [0],oQ 19 (.mv Z4) [],oQ 20 (.idxA 5 Z18 Z19) [1,2],oQ 21 (.load true 5 Z20) [3],oQ 5 (.alloc [.int .i64 0,.int .i64 0,.slice none 0 0,.slice none 0 0,.bool false]) [],nQ (.store 5 Z5 Z21) (5::4::uQ 6)]
def l27r5:List AOper :=
 [oQ 22 (.fld 1 Z5) [],oQ 23 (.load true 3 Z22) [0],oQ 24 (.call 64 [Z23]) [1],oQ 25 (.fld 1 Z5) [0,1,2],nQ (.store 3 Z25 Z24) [3,2,2,0,1,2]]
def l27r6:List AOper :=
 [oQ 26 (.fld 1 Z3) [],oQ 27 (.load false 1 Z26) [0],oQ 28 (.load true 5 Z5) [],oQ 29 (.bslice 5 [.int .i64 0,.int .i64 0,.slice none 0 0,.slice none 0 0,.bool false] [(0,Z28)] 1) [2],oQ 30 (.append 5 Z27 Z29) [1,3],oQ 31 (.fld 1 Z3) (uQ 5),nQ (.store 1 Z31 Z30) (5::4::4::uQ 5)]
def l27r7:List AOper :=
 [oQ 15 (.mv Z4) [],oQ 16 (.bin .add Z15 (.const (.int .i64 1))) [0],oQ 4 (.mv Z16) [1,0,1]]
def l27r8:List AOper :=
 [oQ 32 (.load true 2 Z3) [],nQ (.store 2 Z2 Z32) [0,0]]
def l27:AFn :=
 (AFn.mk 33 1 (.seq (.reg l27r0) (.seq (.reg l27r1) (.seq (.seq (.reg l27r2) (.block 0 (.loop (.seq (.seq (.reg l27r3) (.cond (.tmp 14) .skip (.exit 0))) (.seq (.block 1 (.seq (.reg l27r4) (.seq (.reg l27r5) (.reg l27r6)))) (.reg l27r7)))))) (.seq (.reg l27r8) .ret)))) [.cell 2 true 2])
theorem l27_eq:lowFn Tryz.prog 27=some l27:=by kernel_rfl
def l30r0:List AOper :=
 [oQ 1 (.box Z0) [],oQ 2 (.mv (.const (.bool false))) []]
def l30r1a:List AOper :=
 [oQ 5 (.fld 0 Z1) [],oQ 6 (.load false 1 Z5) [0],oQ 7 (.call 51 [Z6,.const (.int .i64 7)]) [1],oQ 8 (.un .not Z7) [2],oQ 9 (.mv Z8) [3,2],gQ 10 (.fld 1 Z1) (some (9,false)) [4],gQ 11 (.load false 1 Z10) (some (9,false)) [5,4],gQ 12 (.len Z11) (some (9,false)) [6,4],gQ 13 (.fld 0 Z1) (some (9,false)) [4],gQ 14 (.load false 1 Z13) (some (9,false)) [8,4],gQ 15 (.idxP 2 8 (.global 1) Z14) (some (9,false)) [9,4],gQ 16 (.fld 1 Z15) (some (9,false)) [10,4],gQ 17 (.load false 1 Z16) (some (9,false)) [11,4]]
def l30r1b:List AOper :=
 [gQ 18 (.bin .neq Z12 Z17) (some (9,false)) [7,12,4],oQ 19 (.pick Z9 (.const (.bool true)) Z18) [4,13]]
def l30r1:List AOper:=l30r1a++l30r1b
def l30r2:List AOper :=
 [oQ 2 (.mv (.const (.bool false))) []]
def l30r3:List AOper :=
 [oQ 20 (.fld 1 Z1) [],oQ 21 (.load false 1 Z20) [0],oQ 22 (.len Z21) [1],oQ 23 (.mv (.const (.int .i64 0))) []]
def l30r4:List AOper :=
 [oQ 24 (.bin .lss Z23 Z22) []]
def l30r5:List AOper :=
 [oQ 25 (.idxA 1 Z21 Z23) [],oQ 26 (.load false 1 Z25) [0],oQ 4 (.mv Z26) [1,0,1]]
def l30r6:List AOper :=
 [oQ 27 (.mv Z4) [],oQ 28 (.call 66 [Z27,.const (.int .i64 100)]) [0],oQ 29 (.un .not Z28) [1]]
def l30r7:List AOper :=
 [oQ 2 (.mv (.const (.bool false))) []]
def l30r8:List AOper :=
 [oQ 30 (.bin .add Z23 (.const (.int .i64 1))) [],oQ 23 (.mv Z30) [0]]
def l30r9:List AOper :=
 [oQ 2 (.mv (.const (.bool true))) []]
def l30:AFn :=
 (AFn.mk 31 1 (.seq (.reg l30r0) (.seq (.seq (.draw l30r1) (.cond (.tmp 19) (.seq (.reg l30r2) .ret) .skip)) (.seq (.seq (.reg l30r3) (.block 0 (.loop (.seq (.reg l30r4) (.seq (.cond (.tmp 24) .skip (.exit 0)) (.seq (.block 1 (.seq (.reg l30r5) (.seq (.reg l30r6) (.cond (.tmp 29) (.seq (.reg l30r7) .ret) .skip)))) (.reg l30r8))))))) (.seq (.reg l30r9) .ret)))) [.tmp 2])
theorem l30_eq:lowFn Tryz.prog 30=some l30:=by kernel_rfl
def l31r0:List AOper :=
 [oQ 2 (.box Z0) [],oQ 3 (.box Z1) [],oQ 4 (.alloc [.slice none 0 0,.slice none 0 0]) [],oQ 5 (.mv (.const (.bool false))) []]
def l31r1:List AOper :=
 [oQ 7 (.fld 1 Z3) [],oQ 8 (.load false 1 Z7) [0],oQ 6 (.mv Z8) [1,0,1]]
def l31r2:List AOper :=
 [oQ 9 (.fld 0 Z3) [],oQ 10 (.load false 1 Z9) [0]]
def l31r3:List AOper :=
 [oQ 12 (.bin .eql Z10 (.const (.int .i64 0))) [],oQ 11 (.mv Z12) [0]]
def l31r4a:List AOper :=
 [oQ 13 (.load true 2 Z2) [],oQ 14 (.mv Z6) [],oQ 15 (.idxA 1 Z14 (.const (.int .i64 0))) [1],oQ 16 (.load false 1 Z15) [2],oQ 17 (.call 67 [Z13,Z16]) [0,3],oQ 18 (.extract Z17 0) [4],oQ 19 (.extract Z17 1) [4]]
def l31r4b:List AOper :=
 [nQ (.store 2 Z4 Z18) (5::4::uQ 7),oQ 5 (.mv Z19) (6::7::uQ 8)]
def l31r4:List AOper:=l31r4a++l31r4b
def l31r5:List AOper :=
 [oQ 21 (.bin .eql Z10 (.const (.int .i64 1))) [],oQ 20 (.mv Z21) [0]]
def l31r6a:List AOper :=
 [oQ 22 (.load true 2 Z2) [],oQ 23 (.mv Z6) [],oQ 24 (.idxA 1 Z23 (.const (.int .i64 0))) [1],oQ 25 (.load false 1 Z24) [2],oQ 26 (.mv Z6) [],oQ 27 (.slice 1 Z26 (some (.const (.int .i64 1))) (some (.const (.int .i64 2)))) [4],oQ 28 (.mv Z6) [],oQ 29 (.slice 1 Z28 (some (.const (.int .i64 2))) (some (.const (.int .i64 3)))) [6],oQ 30 (.build [.int .i64 0,.slice none 0 0,.slice none 0 0] [(0,1,Z25),(1,1,Z27),(2,1,Z29)]) [3,5,7],oQ 31 (.call 68 [Z22,Z30]) [0,8],oQ 32 (.extract Z31 0) [9],oQ 33 (.extract Z31 1) [9]]
def l31r6b:List AOper :=
 [nQ (.store 2 Z4 Z32) (10::9::uQ 12),oQ 5 (.mv Z33) (11::12::uQ 13)]
def l31r6:List AOper:=l31r6a++l31r6b
def l31r7:List AOper :=
 [oQ 35 (.bin .eql Z10 (.const (.int .i64 2))) [],oQ 34 (.mv Z35) [0]]
def l31r8a:List AOper :=
 [oQ 36 (.load true 2 Z2) [],oQ 37 (.mv Z6) [],oQ 38 (.idxA 1 Z37 (.const (.int .i64 0))) [1],oQ 39 (.load false 1 Z38) [2],oQ 40 (.mv Z6) [],oQ 41 (.idxA 1 Z40 (.const (.int .i64 1))) [4],oQ 42 (.load false 1 Z41) [5],oQ 43 (.mv Z6) [],oQ 44 (.idxA 1 Z43 (.const (.int .i64 2))) [7],oQ 45 (.load false 1 Z44) [8],oQ 46 (.mv Z6) [],oQ 47 (.idxA 1 Z46 (.const (.int .i64 3))) [10],oQ 48 (.load false 1 Z47) [11],oQ 49 (.build [.int .i64 0,.int .i64 0,.int .i64 0,.bool false,.bool false] [(0,1,Z42),(1,1,Z45),(2,1,Z48),(3,1,.const (.bool true)),(4,1,.const (.bool true))]) [6,9,12],oQ 50 (.call 69 [Z36,Z39,.const (.int .i64 0),Z49]) [0,3,13],oQ 51 (.extract Z50 0) [14],oQ 52 (.extract Z50 1) [14]]
def l31r8b:List AOper :=
 [nQ (.store 2 Z4 Z51) (15::14::uQ 17),oQ 5 (.mv Z52) (16::17::uQ 18)]
def l31r8:List AOper:=l31r8a++l31r8b
def l31r9:List AOper :=
 [oQ 54 (.bin .eql Z10 (.const (.int .i64 3))) [],oQ 53 (.mv Z54) [0]]
def l31r10a:List AOper :=
 [oQ 55 (.load true 2 Z2) [],oQ 56 (.mv Z6) [],oQ 57 (.idxA 1 Z56 (.const (.int .i64 0))) [1],oQ 58 (.load false 1 Z57) [2],oQ 59 (.build [.int .i64 0,.int .i64 0,.int .i64 0,.bool false,.bool false] [(2,1,.const (.int .i64 (-1)))]) [],oQ 60 (.call 69 [Z55,Z58,.const (.int .i64 0),Z59]) [0,3,4],oQ 61 (.extract Z60 0) [5],oQ 62 (.extract Z60 1) [5]]
def l31r10b:List AOper :=
 [nQ (.store 2 Z4 Z61) (6::5::uQ 8),oQ 5 (.mv Z62) (7::8::uQ 9)]
def l31r10:List AOper:=l31r10a++l31r10b
def l31r11:List AOper :=
 [oQ 64 (.bin .eql Z10 (.const (.int .i64 4))) [],oQ 63 (.mv Z64) [0]]
def l31r12a:List AOper :=
 [oQ 65 (.load true 2 Z2) [],oQ 66 (.mv Z6) [],oQ 67 (.idxA 1 Z66 (.const (.int .i64 0))) [1],oQ 68 (.load false 1 Z67) [2],oQ 69 (.mv Z6) [],oQ 70 (.idxA 1 Z69 (.const (.int .i64 1))) [4],oQ 71 (.load false 1 Z70) [5],oQ 72 (.call 70 [Z65,Z68,Z71]) [0,3,6],oQ 73 (.extract Z72 0) [7],oQ 74 (.extract Z72 1) [7]]
def l31r12b:List AOper :=
 [nQ (.store 2 Z4 Z73) (8::7::uQ 10),oQ 5 (.mv Z74) (9::10::uQ 11)]
def l31r12:List AOper:=l31r12a++l31r12b
def l31r13:List AOper :=
 [oQ 76 (.bin .eql Z10 (.const (.int .i64 5))) [],oQ 75 (.mv Z76) [0]]
def l31r14a:List AOper :=
 [oQ 77 (.load true 2 Z2) [],oQ 78 (.mv Z6) [],oQ 79 (.idxA 1 Z78 (.const (.int .i64 0))) [1],oQ 80 (.load false 1 Z79) [2],oQ 81 (.mv Z6) [],oQ 82 (.idxA 1 Z81 (.const (.int .i64 1))) [4],oQ 83 (.load false 1 Z82) [5],oQ 84 (.call 71 [Z77,Z80,Z83]) [0,3,6],oQ 85 (.extract Z84 0) [7],oQ 86 (.extract Z84 1) [7]]
def l31r14b:List AOper :=
 [nQ (.store 2 Z4 Z85) (8::7::uQ 10),oQ 5 (.mv Z86) (9::10::uQ 11)]
def l31r14:List AOper:=l31r14a++l31r14b
def l31r15:List AOper :=
 [oQ 88 (.bin .eql Z10 (.const (.int .i64 7))) [],oQ 87 (.mv Z88) [0]]
def l31r16a:List AOper :=
 [oQ 89 (.load true 2 Z2) [],oQ 90 (.mv Z6) [],oQ 91 (.idxA 1 Z90 (.const (.int .i64 0))) [1],oQ 92 (.load false 1 Z91) [2],oQ 93 (.call 72 [Z89,Z92]) [0,3],oQ 94 (.extract Z93 0) [4],oQ 95 (.extract Z93 1) [4]]
def l31r16b:List AOper :=
 [nQ (.store 2 Z4 Z94) (5::4::uQ 7),oQ 5 (.mv Z95) (6::7::uQ 8)]
def l31r16:List AOper:=l31r16a++l31r16b
def l31r17a:List AOper :=
 [oQ 96 (.load true 2 Z2) [],oQ 97 (.call 32 [Z96]) [0],oQ 98 (.load true 2 Z2) [],oQ 99 (.mv Z6) [],oQ 100 (.idxA 1 Z99 (.const (.int .i64 0))) [3],oQ 101 (.load false 1 Z100) [4]]
def l31r17b:List AOper :=
 [oQ 102 (.call 73 [Z98,Z101]) [2,5,1],nQ (.store 2 Z4 Z97) [1,6,0,1],oQ 5 (.mv Z102) (6::7::uQ 8)]
def l31r17:List AOper:=l31r17a++l31r17b
def l31:AFn :=
 (AFn.mk 103 2 (.seq (.reg l31r0) (.seq (.reg l31r1) (.seq (.seq (.reg l31r2) (.block 0 (.seq (.reg l31r3) (.cond (.tmp 11) (.seq (.draw l31r4) .ret) (.seq (.reg l31r5) (.cond (.tmp 20) (.seq (.draw l31r6) .ret) (.seq (.reg l31r7) (.cond (.tmp 34) (.seq (.draw l31r8) .ret) (.seq (.reg l31r9) (.cond (.tmp 53) (.seq (.draw l31r10) .ret) (.seq (.reg l31r11) (.cond (.tmp 63) (.seq (.draw l31r12) .ret) (.seq (.reg l31r13) (.cond (.tmp 75) (.seq (.draw l31r14) .ret) (.seq (.reg l31r15) (.cond (.tmp 87) (.seq (.draw l31r16) .ret) .skip)))))))))))))))) (.seq (.draw l31r17) .ret)))) [.cell 4 true 2,.tmp 5])
theorem l31_eq:lowFn Tryz.prog 31=some l31:=by kernel_rfl
def l32r0:List AOper :=
 [oQ 1 (.box Z0) [],oQ 2 (.alloc [.slice none 0 0,.slice none 0 0]) []]
def l32r1:List AOper :=
 [oQ 6 (.fld 0 Z1) [],oQ 7 (.load false 1 Z6) [0],oQ 8 (.call 74 [Z7]) [1],oQ 9 (.build [.slice none 0 0,.slice none 0 0] [(0,1,Z8)]) [2],oQ 3 (.alloc [.slice none 0 0,.slice none 0 0]) [],nQ (.store 2 Z3 Z9) (4::3::2::uQ 5)]
def l32r2:List AOper :=
 [oQ 10 (.fld 1 Z1) [],oQ 11 (.load false 1 Z10) [0],oQ 12 (.len Z11) [1],oQ 13 (.mv (.const (.int .i64 0))) []]
def l32r3:List AOper :=
 [oQ 14 (.bin .lss Z13 Z12) []]
def l32r4:List AOper :=
 [oQ 15 (.idxA 5 Z11 Z13) [],oQ 16 (.load true 5 Z15) [0],oQ 5 (.alloc [.int .i64 0,.int .i64 0,.slice none 0 0,.slice none 0 0,.bool false]) [],nQ (.store 5 Z5 Z16) [2,1,0,1,2]]
def l32r5a:List AOper :=
 [oQ 17 (.fld 1 Z3) [],oQ 18 (.load false 1 Z17) [0],oQ 19 (.fld 0 Z5) [],oQ 20 (.load false 1 Z19) [2],oQ 21 (.fld 1 Z5) [],oQ 22 (.load true 3 Z21) [4],oQ 23 (.call 75 [Z22]) [5],oQ 24 (.fld 4 Z5) [],oQ 25 (.load false 1 Z24) [7],oQ 26 (.build [.int .i64 0,.int .i64 0,.slice none 0 0,.slice none 0 0,.bool false] [(0,1,Z20),(1,3,Z23),(4,1,Z25)]) [3,6,8],oQ 27 (.bslice 5 [.int .i64 0,.int .i64 0,.slice none 0 0,.slice none 0 0,.bool false] [(0,Z26)] 1) [9]]
def l32r5b:List AOper :=
 [oQ 28 (.append 5 Z18 Z27) [1,10,6],oQ 29 (.fld 1 Z3) (uQ 12),nQ (.store 1 Z29 Z28) (12::11::11::uQ 12)]
def l32r5:List AOper:=l32r5a++l32r5b
def l32r6:List AOper :=
 [oQ 30 (.bin .add Z13 (.const (.int .i64 1))) [],oQ 13 (.mv Z30) [0]]
def l32r7:List AOper :=
 [oQ 31 (.load true 2 Z3) [],nQ (.store 2 Z2 Z31) [0,0]]
def l32:AFn :=
 (AFn.mk 32 1 (.seq (.reg l32r0) (.seq (.reg l32r1) (.seq (.seq (.reg l32r2) (.block 0 (.loop (.seq (.reg l32r3) (.seq (.cond (.tmp 14) .skip (.exit 0)) (.seq (.block 1 (.seq (.reg l32r4) (.draw l32r5))) (.reg l32r6))))))) (.seq (.reg l32r7) .ret)))) [.cell 2 true 2])
theorem l32_eq:lowFn Tryz.prog 32=some l32:=by kernel_rfl
def l33r0:List AOper :=
 [oQ 2 (.box Z0) [],oQ 3 (.box Z1) [],oQ 4 (.mv (.const (.string (ByteArray.mk (Array.mk []))))) []]
def l33r1:List AOper :=
 [oQ 5 (.fld 0 Z3) [],oQ 6 (.load false 1 Z5) [0]]
def l33r2:List AOper :=
 [oQ 8 (.bin .eql Z6 (.const (.int .i64 1))) [],oQ 7 (.mv Z8) [0]]
def l33r3:List AOper :=
 [oQ 9 (.bin .eql Z6 (.const (.int .i64 2))) [],oQ 7 (.mv Z9) [0]]
def l33r4:List AOper :=
 [oQ 10 (.bin .eql Z6 (.const (.int .i64 3))) [],oQ 7 (.mv Z10) [0]]
def l33r5:List AOper :=
 [oQ 11 (.fld 1 Z2) [],oQ 12 (.load false 1 Z11) [0],oQ 13 (.len Z12) [1],oQ 14 (.bin .sub Z13 (.const (.int .i64 1))) [2],oQ 15 (.bslice 1 [.int .i64 0] [(0,Z14)] 1) [3],oQ 16 (.call 76 [.const (.string (ByteArray.mk (Array.mk [(97:UInt8),(116:UInt8)]))),Z15]) [4],oQ 4 (.mv Z16) (5::5::uQ 6)]
def l33r6:List AOper :=
 [oQ 18 (.bin .eql Z6 (.const (.int .i64 6))) [],oQ 17 (.mv Z18) [0]]
def l33r7a:List AOper :=
 [oQ 19 (.load true 2 Z2) [],oQ 20 (.fld 1 Z3) [],oQ 21 (.load false 1 Z20) [1],oQ 22 (.idxA 1 Z21 (.const (.int .i64 0))) [2],oQ 23 (.load false 1 Z22) [3]]
def l33r7b:List AOper :=
 [oQ 24 (.call 77 [Z19,Z23]) [0,4],oQ 25 (.call 76 [.const (.string (ByteArray.mk (Array.mk [(104:UInt8),(97:UInt8),(115:UInt8)]))),Z24]) [5,5],oQ 4 (.mv Z25) (6::6::uQ 7)]
def l33r7:List AOper:=l33r7a++l33r7b
def l33r8:List AOper :=
 [oQ 4 (.mv (.const (.string (ByteArray.mk (Array.mk [(111:UInt8),(107:UInt8)]))))) []]
def l33:AFn :=
 (AFn.mk 26 2 (.seq (.reg l33r0) (.seq (.seq (.reg l33r1) (.block 0 (.seq (.seq (.reg l33r2) (.cond (.tmp 7) .skip (.seq (.reg l33r3) (.cond (.tmp 7) .skip (.reg l33r4))))) (.cond (.tmp 7) (.seq (.reg l33r5) .ret) (.seq (.reg l33r6) (.cond (.tmp 17) (.seq (.draw l33r7) .ret) .skip)))))) (.seq (.reg l33r8) .ret))) [.tmp 4])
theorem l33_eq:lowFn Tryz.prog 33=some l33:=by kernel_rfl
def l40r0:List AOper :=
 [oQ 2 (.mv (.const (.pointer none))) []]
def l40r1:List AOper :=
 [oQ 3 (.mv Z0) [],oQ 4 (.len Z3) [0],oQ 5 (.bin .gtr Z4 (.const (.int .i64 2000))) [1]]
def l40r2:List AOper :=
 [oQ 6 (.mv Z0) [],oQ 7 (.slice 1 Z6 none (some (.const (.int .i64 2000)))) [0],oQ 0 (.mv Z7) [1,0,1]]
def l40r3:List AOper :=
 [oQ 8 (.mv Z0) [],oQ 9 (.build [.slice none 0 0,.int .i64 0] [(0,1,Z8)]) [0],oQ 10 (.box Z9) [1],oQ 2 (.mv Z10) [2,0,1,2]]
def l40:AFn :=
 (AFn.mk 11 1 (.seq (.reg l40r0) (.seq (.seq (.reg l40r1) (.cond (.tmp 5) (.reg l40r2) .skip)) (.seq (.reg l40r3) .ret))) [.tmp 2])
theorem l40_eq:lowFn Tryz.prog 40=some l40:=by kernel_rfl
def l41r0:List AOper :=
 [oQ 2 (.alloc [.slice none 0 0,.slice none 0 0]) []]
def l41r1:List AOper :=
 [oQ 4 (.mv Z0) [],oQ 5 (.call 79 [Z4]) [0],oQ 3 (.alloc [.slice none 0 0,.slice none 0 0]) [],nQ (.store 2 Z3 Z5) [2,1,1,0,1,2]]
def l41r2:List AOper :=
 [oQ 6 (.mv Z0) [],oQ 7 (.call 80 [Z6,.const (.int .i64 20)]) [0]]
def l41r3:List AOper :=
 [oQ 9 (.bin .eql Z7 (.const (.int .i64 0))) [],oQ 8 (.mv Z9) [0]]
def l41r4:List AOper :=
 [oQ 10 (.fld 0 Z3) [],oQ 11 (.load false 1 Z10) [0],oQ 12 (.bslice 1 [.int .i64 0] [(0,.const (.int .i64 256))] 1) [],oQ 13 (.append 1 Z11 Z12) [1,2],oQ 14 (.fld 0 Z3) [0,1,2,3],nQ (.store 1 Z14 Z13) [4,3,3,0,1,2,3]]
def l41r5:List AOper :=
 [oQ 16 (.bin .eql Z7 (.const (.int .i64 1))) [],oQ 15 (.mv Z16) [0]]
def l41r6a:List AOper :=
 [oQ 17 (.fld 1 Z3) [],oQ 18 (.load false 1 Z17) [0],oQ 19 (.mv Z0) [],oQ 20 (.bslice 1 [.int .i64 0] [(0,.const (.int .i64 (-2))),(1,.const (.int .i64 8))] 2) [],oQ 21 (.call 81 [Z19,Z20]) [2,3],oQ 22 (.build [.int .i64 0,.int .i64 0,.slice none 0 0,.slice none 0 0,.bool false] [(0,1,Z21),(4,1,.const (.bool true))]) [4],oQ 23 (.bslice 5 [.int .i64 0,.int .i64 0,.slice none 0 0,.slice none 0 0,.bool false] [(0,Z22)] 1) [5]]
def l41r6b:List AOper :=
 [oQ 24 (.append 5 Z18 Z23) [1,6,4],oQ 25 (.fld 1 Z3) (uQ 8),nQ (.store 1 Z25 Z24) (8::7::7::uQ 8)]
def l41r6:List AOper:=l41r6a++l41r6b
def l41r7:List AOper :=
 [oQ 27 (.bin .eql Z7 (.const (.int .i64 2))) [],oQ 26 (.mv Z27) [0]]
def l41r8:List AOper :=
 [oQ 28 (.fld 1 Z3) [],oQ 29 (.load false 1 Z28) [0],oQ 30 (.build [.int .i64 0,.slice none 0 0,.slice none 0 0] [(0,1,.const (.int .i64 59))]) [],oQ 31 (.build [.int .i64 0,.int .i64 0,.slice none 0 0,.slice none 0 0,.bool false] [(0,1,.const (.int .i64 (-1))),(1,3,Z30),(4,1,.const (.bool true))]) [2],oQ 32 (.bslice 5 [.int .i64 0,.int .i64 0,.slice none 0 0,.slice none 0 0,.bool false] [(0,Z31)] 1) [3],oQ 33 (.append 5 Z29 Z32) [1,4],oQ 34 (.fld 1 Z3) (uQ 6),nQ (.store 1 Z34 Z33) (6::5::5::uQ 6)]
def l41r9:List AOper :=
 [oQ 35 (.load true 2 Z3) [],nQ (.store 2 Z2 Z35) [0,0]]
def l41:AFn :=
 (AFn.mk 36 1 (.seq (.reg l41r0) (.seq (.reg l41r1) (.seq (.seq (.reg l41r2) (.block 0 (.seq (.reg l41r3) (.cond (.tmp 8) (.reg l41r4) (.seq (.reg l41r5) (.cond (.tmp 15) (.draw l41r6) (.seq (.reg l41r7) (.cond (.tmp 26) (.reg l41r8) .skip)))))))) (.seq (.reg l41r9) .ret)))) [.cell 2 true 2])
theorem l41_eq:lowFn Tryz.prog 41=some l41:=by kernel_rfl
def l42r0:List AOper :=
 [oQ 3 (.box Z1) [],oQ 4 (.alloc [.int .i64 0,.slice none 0 0]) []]
def l42r1:List AOper :=
 [oQ 6 (.mv Z0) [],oQ 7 (.load true 2 Z3) [],oQ 8 (.call 82 [Z6,Z7]) [0,1],oQ 5 (.alloc [.int .i64 0,.slice none 0 0]) [],nQ (.store 2 Z5 Z8) [3,2,2,0,1,2,3]]
def l42r2:List AOper :=
 [oQ 9 (.mv Z0) [],oQ 10 (.call 80 [Z9,.const (.int .i64 16)]) [0]]
def l42r3:List AOper :=
 [oQ 12 (.bin .eql Z10 (.const (.int .i64 0))) [],oQ 11 (.mv Z12) [0]]
def l42r4:List AOper :=
 [oQ 13 (.mv Z0) [],oQ 14 (.bslice 1 [.int .i64 0] [(0,.const (.int .i64 (-1))),(1,.const (.int .i64 8)),(2,.const (.int .i64 1))] 3) [],oQ 15 (.call 81 [Z13,Z14]) [0,1],oQ 16 (.fld 0 Z5) [0,1,2],nQ (.store 1 Z16 Z15) [3,2,2,0,1,2]]
def l42r5:List AOper :=
 [oQ 18 (.bin .eql Z10 (.const (.int .i64 1))) [],oQ 17 (.mv Z18) [0]]
def l42r6:List AOper :=
 [oQ 19 (.fld 1 Z5) [],oQ 20 (.load false 1 Z19) [0],oQ 21 (.bslice 1 [.int .i64 0] [(0,.const (.int .i64 1))] 1) [],oQ 22 (.append 1 Z20 Z21) [1,2],oQ 23 (.fld 1 Z5) [0,1,2,3],nQ (.store 1 Z23 Z22) [4,3,3,0,1,2,3]]
def l42r7:List AOper :=
 [oQ 25 (.bin .eql Z10 (.const (.int .i64 2))) [],oQ 24 (.mv Z25) [0]]
def l42r8a:List AOper :=
 [oQ 26 (.fld 1 Z5) [],oQ 27 (.load false 1 Z26) [0],oQ 28 (.mv Z0) [],oQ 29 (.bslice 1 [.int .i64 0] [(0,.const (.int .i64 (-101))),(1,.const (.int .i64 101)),(2,.const (.int .i64 (-1))),(3,.const (.int .i64 100))] 4) [],oQ 30 (.call 81 [Z28,Z29]) [2,3]]
def l42r8b:List AOper :=
 [oQ 31 (.idxA 1 Z27 (.const (.int .i64 0))) (1::uQ 5),nQ (.store 1 Z31 Z30) (5::4::4::uQ 5)]
def l42r8:List AOper:=l42r8a++l42r8b
def l42r9:List AOper :=
 [oQ 32 (.load true 2 Z5) [],nQ (.store 2 Z4 Z32) [0,0]]
def l42:AFn :=
 (AFn.mk 33 2 (.seq (.reg l42r0) (.seq (.reg l42r1) (.seq (.seq (.reg l42r2) (.block 0 (.seq (.reg l42r3) (.cond (.tmp 11) (.reg l42r4) (.seq (.reg l42r5) (.cond (.tmp 17) (.reg l42r6) (.seq (.reg l42r7) (.cond (.tmp 24) (.draw l42r8) .skip)))))))) (.seq (.reg l42r9) .ret)))) [.cell 4 true 2])
theorem l42_eq:lowFn Tryz.prog 42=some l42:=by kernel_rfl
def l43r0:List AOper :=
 [oQ 4 (.mv (.const (.bool false))) []]
def l43r1:List AOper :=
 [oQ 6 (.mv Z0) [],oQ 7 (.len Z6) [0],oQ 8 (.mv Z1) [],oQ 9 (.len Z8) [2],oQ 10 (.bin .neq Z7 Z9) [1,3]]
def l43r2:List AOper :=
 [oQ 4 (.mv (.const (.bool false))) []]
def l43r3:List AOper :=
 [oQ 5 (.mv (.const (.int .i64 0))) []]
def l43r4:List AOper :=
 [oQ 11 (.mv Z5) [],oQ 12 (.mv Z0) [],oQ 13 (.len Z12) [1],oQ 14 (.bin .lss Z11 Z13) [0,2]]
def l43r5a:List AOper :=
 [oQ 17 (.mv Z0) [],oQ 18 (.mv Z5) [],oQ 19 (.idxA 1 Z17 Z18) [0,1],oQ 20 (.load false 1 Z19) [2],oQ 21 (.mv Z1) [],oQ 22 (.mv Z5) [],oQ 23 (.idxA 1 Z21 Z22) [4,5],oQ 24 (.load false 1 Z23) [6]]
def l43r5b:List AOper :=
 [oQ 25 (.bin .neq Z20 Z24) [3,7]]
def l43r5:List AOper:=l43r5a++l43r5b
def l43r6:List AOper :=
 [oQ 4 (.mv (.const (.bool false))) []]
def l43r7:List AOper :=
 [oQ 15 (.mv Z5) [],oQ 16 (.bin .add Z15 (.const (.int .i64 1))) [0],oQ 5 (.mv Z16) [1,0,1]]
def l43r8:List AOper :=
 [oQ 4 (.mv (.const (.bool true))) []]
def l43:AFn :=
 (AFn.mk 26 2 (.seq (.reg l43r0) (.seq (.seq (.reg l43r1) (.cond (.tmp 10) (.seq (.reg l43r2) .ret) .skip)) (.seq (.seq (.reg l43r3) (.block 0 (.loop (.seq (.seq (.reg l43r4) (.cond (.tmp 14) .skip (.exit 0))) (.seq (.block 1 (.seq (.draw l43r5) (.cond (.tmp 25) (.seq (.reg l43r6) .ret) .skip))) (.reg l43r7)))))) (.seq (.reg l43r8) .ret)))) [.tmp 4])
theorem l43_eq:lowFn Tryz.prog 43=some l43:=by kernel_rfl
def l44r0:List AOper :=
 [oQ 2 (.box Z0) [],oQ 3 (.box Z1) [],oQ 4 (.mv (.const (.bool false))) []]
def l44r1:List AOper :=
 [oQ 5 (.fld 0 Z2) [],oQ 6 (.load false 1 Z5) [0],oQ 7 (.fld 0 Z3) [],oQ 8 (.load false 1 Z7) [2],oQ 9 (.bin .eql Z6 Z8) [1,3],oQ 10 (.mv Z9) [4],gQ 11 (.fld 1 Z2) (some (10,true)) [5],gQ 12 (.load false 1 Z11) (some (10,true)) [6,5],gQ 13 (.fld 1 Z3) (some (10,true)) [5],gQ 14 (.load false 1 Z13) (some (10,true)) [8,5],gQ 15 (.call 43 [Z12,Z14]) (some (10,true)) [7,9,5,5],oQ 16 (.pick Z10 Z15 (.const (.bool false))) [5,10],oQ 17 (.mv Z16) [11,10],gQ 18 (.fld 2 Z2) (some (17,true)) [12],gQ 19 (.load false 1 Z18) (some (17,true)) [13,12],gQ 20 (.fld 2 Z3) (some (17,true)) [12],gQ 21 (.load false 1 Z20) (some (17,true)) [15,12],gQ 22 (.call 43 [Z19,Z21]) (some (17,true)) [14,16,12,12],oQ 23 (.pick Z17 Z22 (.const (.bool false))) [12,17],oQ 4 (.mv Z23) (18::17::uQ 19)]
def l44:AFn :=
 (AFn.mk 24 2 (.seq (.reg l44r0) (.seq (.reg l44r1) .ret)) [.tmp 4])
theorem l44_eq:lowFn Tryz.prog 44=some l44:=by kernel_rfl
def l45r0:List AOper :=
 [oQ 2 (.mv (.const (.bool false))) []]
def l45r1:List AOper :=
 [oQ 3 (.mv Z0) [],oQ 4 (.len Z3) [0],oQ 5 (.call 83 [Z4]) [1],oQ 6 (.mv Z5) [2,2],gQ 7 (.mv Z0) (some (6,true)) [3],gQ 8 (.call 84 [Z7]) (some (6,true)) [4,3,3],oQ 9 (.pick Z6 Z8 (.const (.bool false))) [3,5],oQ 2 (.mv Z9) (6::5::uQ 7)]
def l45:AFn :=
 (AFn.mk 10 1 (.seq (.reg l45r0) (.seq (.reg l45r1) .ret)) [.tmp 2])
theorem l45_eq:lowFn Tryz.prog 45=some l45:=by kernel_rfl
def l46r0:List AOper :=
 [oQ 3 (.box Z0) [],oQ 6 (.mv (.const (.bool false))) []]
def l46r1:List AOper :=
 [oQ 7 (.fld 1 Z3) [],oQ 8 (.load true 3 Z7) [0],oQ 9 (.call 50 [Z8]) [1],oQ 10 (.un .not Z9) [2],oQ 11 (.mv Z10) [3,2],gQ 12 (.fld 0 Z3) (some (11,false)) [4],gQ 13 (.load false 1 Z12) (some (11,false)) [5,4],gQ 14 (.bin .lss Z13 (.const (.int .i64 (-1)))) (some (11,false)) [6,4],oQ 15 (.pick Z11 (.const (.bool true)) Z14) [4,7],oQ 16 (.mv Z15) [8,4],gQ 17 (.fld 0 Z3) (some (16,false)) [9],gQ 18 (.load false 1 Z17) (some (16,false)) [10,9],gQ 19 (.mv Z1) (some (16,false)) [9],gQ 20 (.bin .geq Z18 Z19) (some (16,false)) [11,12,9],oQ 21 (.pick Z16 (.const (.bool true)) Z20) [9,13]]
def l46r2:List AOper :=
 [oQ 6 (.mv (.const (.bool false))) []]
def l46r3:List AOper :=
 [oQ 22 (.fld 4 Z3) [],oQ 23 (.load false 1 Z22) [0],oQ 24 (.un .not Z23) [1],oQ 25 (.mv Z24) [2],gQ 26 (.fld 1 Z3) (some (25,false)) [3],gQ 27 (.load true 3 Z26) (some (25,false)) [4,3],gQ 28 (.mv Z2) (some (25,false)) [3],gQ 29 (.call 21 [Z27,Z28]) (some (25,false)) [5,6,3,3],oQ 30 (.pick Z25 (.const (.bool true)) Z29) [3,7],oQ 6 (.mv Z30) (8::7::uQ 9)]
def l46:AFn :=
 (AFn.mk 31 3 (.seq (.reg l46r0) (.seq (.seq (.reg l46r1) (.cond (.tmp 21) (.seq (.reg l46r2) .ret) .skip)) (.seq (.reg l46r3) .ret))) [.tmp 6])
theorem l46_eq:lowFn Tryz.prog 46=some l46:=by kernel_rfl
def l48r0:List AOper :=
 [oQ 2 (.box Z0) [],oQ 4 (.mv (.const (.pointer none))) []]
def l48r1:List AOper :=
 [oQ 10 (.build [.slice none 0 0] []) [],oQ 11 (.box Z10) [0],oQ 5 (.mv Z11) [1,0,1]]
def l48r2:List AOper :=
 [oQ 6 (.mv (.const (.slice none 0 0))) []]
def l48r3:List AOper :=
 [oQ 12 (.fld 1 Z2) [],oQ 13 (.load false 1 Z12) [0],oQ 14 (.len Z13) [1],oQ 15 (.mv (.const (.int .i64 0))) []]
def l48r4:List AOper :=
 [oQ 16 (.bin .lss Z15 Z14) []]
def l48r5:List AOper :=
 [oQ 17 (.mv Z15) [],oQ 18 (.idxA 5 Z13 Z15) [],oQ 19 (.load true 5 Z18) [1],oQ 8 (.alloc [.int .i64 0,.int .i64 0,.slice none 0 0,.slice none 0 0,.bool false]) [],oQ 7 (.mv Z17) [0,0,1,2,3],nQ (.store 5 Z8 Z19) (3::2::4::uQ 5)]
def l48r6:List AOper :=
 [oQ 20 (.mv Z5) [],oQ 9 (.mv Z20) [0,0]]
def l48r7:List AOper :=
 [oQ 21 (.fld 0 Z8) [],oQ 22 (.load false 1 Z21) [0],oQ 23 (.bin .neq Z22 (.const (.int .i64 (-1)))) [1]]
def l48r8:List AOper :=
 [oQ 24 (.mv Z6) [],oQ 25 (.fld 0 Z8) [],oQ 26 (.load false 1 Z25) [1],oQ 27 (.idxA 1 Z24 Z26) [0,2],oQ 28 (.load false 1 Z27) [3],oQ 9 (.mv Z28) (4::uQ 5)]
def l48r9:List AOper :=
 [oQ 29 (.mv Z6) [],oQ 30 (.mv Z9) [],oQ 31 (.mv Z7) [],oQ 32 (.fld 4 Z8) [],oQ 33 (.load false 1 Z32) [3],oQ 34 (.call 87 [Z30,Z31,Z33]) [1,2,4],oQ 35 (.bslice 1 [.pointer none] [(0,Z34)] 1) [5],oQ 36 (.append 1 Z29 Z35) [0,6,5],oQ 6 (.mv Z36) (7::7::uQ 8)]
def l48r10:List AOper :=
 [oQ 37 (.bin .add Z15 (.const (.int .i64 1))) [],oQ 15 (.mv Z37) [0]]
def l48r11:List AOper :=
 [oQ 38 (.mv Z1) [],oQ 39 (.bin .eql Z38 (.const (.int .i64 (-1)))) [0]]
def l48r12:List AOper :=
 [oQ 40 (.mv Z5) [],oQ 4 (.mv Z40) [0,0]]
def l48r13:List AOper :=
 [oQ 41 (.mv Z6) [],oQ 42 (.mv Z1) [],oQ 43 (.idxA 1 Z41 Z42) [0,1],oQ 44 (.load false 1 Z43) [2],oQ 4 (.mv Z44) [3,0,1,2,3]]
def l48:AFn :=
 (AFn.mk 45 2 (.seq (.reg l48r0) (.seq (.reg l48r1) (.seq (.reg l48r2) (.seq (.seq (.reg l48r3) (.block 0 (.loop (.seq (.reg l48r4) (.seq (.cond (.tmp 16) .skip (.exit 0)) (.seq (.block 1 (.seq (.reg l48r5) (.seq (.reg l48r6) (.seq (.seq (.reg l48r7) (.cond (.tmp 23) (.reg l48r8) .skip)) (.reg l48r9))))) (.reg l48r10))))))) (.seq (.seq (.reg l48r11) (.cond (.tmp 39) (.seq (.reg l48r12) .ret) .skip)) (.seq (.reg l48r13) .ret)))))) [.tmp 4])
theorem l48_eq:lowFn Tryz.prog 48=some l48:=by kernel_rfl
def l49r0:List AOper :=
 [oQ 2 (.mv (.const .nilIface)) []]
def l49r1:List AOper :=
 [oQ 3 (.mv Z0) [],oQ 4 (.nilck Z3) [0],oQ 5 (.fld 0 Z4) [1],oQ 6 (.load false 1 Z5) [2],oQ 7 (.len Z6) [3],oQ 8 (.bin .gtr Z7 (.const (.int .i64 0))) [4]]
def l49r2:List AOper :=
 [oQ 9 (.load false 1 (.global 0)) [],oQ 2 (.mv Z9) [0,0]]
def l49r3:List AOper :=
 [oQ 2 (.mv (.const .nilIface)) []]
def l49:AFn :=
 (AFn.mk 10 1 (.seq (.reg l49r0) (.seq (.seq (.reg l49r1) (.cond (.tmp 8) (.seq (.reg l49r2) .ret) .skip)) (.seq (.reg l49r3) .ret))) [.tmp 2])
theorem l49_eq:lowFn Tryz.prog 49=some l49:=by kernel_rfl
def l50r0:List AOper :=
 [oQ 1 (.box Z0) [],oQ 2 (.mv (.const (.bool false))) []]
def l50r1:List AOper :=
 [oQ 5 (.fld 1 Z1) [],oQ 6 (.load false 1 Z5) [0],oQ 7 (.call 88 [Z6]) [1],oQ 8 (.un .not Z7) [2],oQ 9 (.mv Z8) [3,2],gQ 10 (.fld 2 Z1) (some (9,false)) [4],gQ 11 (.load false 1 Z10) (some (9,false)) [5,4],gQ 12 (.fld 1 Z1) (some (9,false)) [4],gQ 13 (.load false 1 Z12) (some (9,false)) [7,4],gQ 14 (.len Z13) (some (9,false)) [8,4],gQ 15 (.call 89 [Z11,Z14]) (some (9,false)) [6,9,4,4],gQ 16 (.un .not Z15) (some (9,false)) [10,4],oQ 17 (.pick Z9 (.const (.bool true)) Z16) [4,11],oQ 18 (.mv Z17) [12,10],gQ 19 (.fld 0 Z1) (some (18,false)) [13],gQ 20 (.load false 1 Z19) (some (18,false)) [14,13],gQ 21 (.call 51 [Z20,.const (.int .i64 60)]) (some (18,false)) [15,13,13],gQ 22 (.un .not Z21) (some (18,false)) [16,13],oQ 23 (.pick Z18 (.const (.bool true)) Z22) [13,17]]
def l50r2:List AOper :=
 [oQ 2 (.mv (.const (.bool false))) []]
def l50r3:List AOper :=
 [oQ 25 (.load true 3 Z1) [],oQ 26 (.call 52 [Z25]) [0],oQ 24 (.mv Z26) [1],oQ 27 (.extract Z24 0) [2],oQ 28 (.extract Z24 1) [2],oQ 3 (.mv Z27) [3,1,0,1,2,3],oQ 4 (.mv Z28) (4::5::uQ 6)]
def l50r4:List AOper :=
 [oQ 29 (.load true 3 Z1) [],oQ 30 (.call 90 [Z29]) [0],oQ 31 (.bin .eql Z30 (.const (.int .i64 0))) [1],oQ 32 (.mv Z31) [2,1],gQ 33 (.mv Z3) (some (32,false)) [3],gQ 34 (.bin .geq Z33 (.const (.int .i64 0))) (some (32,false)) [4,3],gQ 35 (.mv Z34) (some (32,false)) [5,3,3],gQ 36 (.mv Z4) (some (35,true)) [6],gQ 37 (.bin .lss Z36 (.const (.int .i64 60))) (some (35,true)) [7,6],gQ 38 (.pick Z35 Z37 (.const (.bool false))) (some (32,false)) [6,8,3],oQ 39 (.pick Z32 (.const (.bool true)) Z38) [3,9],oQ 2 (.mv Z39) (10::6::uQ 11)]
def l50:AFn :=
 (AFn.mk 40 1 (.seq (.reg l50r0) (.seq (.seq (.reg l50r1) (.cond (.tmp 23) (.seq (.reg l50r2) .ret) .skip)) (.seq (.reg l50r3) (.seq (.reg l50r4) .ret)))) [.tmp 2])
theorem l50_eq:lowFn Tryz.prog 50=some l50:=by kernel_rfl
def l51r0:List AOper :=
 [oQ 4 (.mv (.const (.bool false))) []]
def l51r1:List AOper :=
 [oQ 5 (.mv Z0) [],oQ 6 (.bin .leq (.const (.int .i64 0)) Z5) [0],oQ 7 (.mv Z6) [1],gQ 8 (.mv Z0) (some (7,true)) [2],gQ 9 (.mv Z1) (some (7,true)) [2],gQ 10 (.bin .leq Z8 Z9) (some (7,true)) [3,4,2],oQ 11 (.pick Z7 Z10 (.const (.bool false))) [2,5],oQ 4 (.mv Z11) (6::2::uQ 7)]
def l51:AFn :=
 (AFn.mk 12 2 (.seq (.reg l51r0) (.seq (.reg l51r1) .ret)) [.tmp 4])
theorem l51_eq:lowFn Tryz.prog 51=some l51:=by kernel_rfl
def l52r0:List AOper :=
 [oQ 1 (.box Z0) [],oQ 2 (.mv (.const (.int .i64 0))) [],oQ 3 (.mv (.const (.int .i64 0))) [1]]
def l52r1:List AOper :=
 [oQ 9 (.load true 3 Z1) [],oQ 10 (.call 90 [Z9]) [0],oQ 11 (.bin .eql Z10 (.const (.int .i64 0))) [1]]
def l52r2:List AOper :=
 [oQ 2 (.mv (.const (.int .i64 (-1)))) [],oQ 3 (.mv (.const (.int .i64 (-1)))) [0,0]]
def l52r3a:List AOper :=
 [oQ 12 (.fld 0 Z1) [],oQ 13 (.load false 1 Z12) [0],oQ 14 (.fld 0 Z1) [],oQ 15 (.load false 1 Z14) [2],oQ 4 (.mv Z13) [1,0,1]]
def l52r3b:List AOper :=
 [oQ 5 (.mv Z15) (3::4::uQ 5)]
def l52r3:List AOper:=l52r3a++l52r3b
def l52r4:List AOper :=
 [oQ 16 (.fld 2 Z1) [],oQ 17 (.load false 1 Z16) [0],oQ 18 (.len Z17) [1],oQ 19 (.mv (.const (.int .i64 0))) []]
def l52r5:List AOper :=
 [oQ 20 (.bin .lss Z19 Z18) []]
def l52r6:List AOper :=
 [oQ 21 (.mv Z19) [],oQ 22 (.idxA 1 Z17 Z19) [],oQ 23 (.load false 1 Z22) [1],oQ 6 (.mv Z21) [0,0,1,2],oQ 7 (.mv Z23) [2,3,0,1,2,3]]
def l52r7:List AOper :=
 [oQ 24 (.fld 1 Z1) [],oQ 25 (.load false 1 Z24) [0],oQ 26 (.mv Z6) [],oQ 27 (.idxA 1 Z25 Z26) [1,2],oQ 28 (.load false 1 Z27) [3],oQ 29 (.bin .sub Z28 (.const (.int .i64 1))) [4],oQ 30 (.mv Z7) [],oQ 31 (.bin .mul Z29 Z30) [5,6],oQ 8 (.mv Z31) (7::uQ 8)]
def l52r8:List AOper :=
 [oQ 32 (.mv Z4) [],oQ 33 (.mv Z8) [],oQ 34 (.minmax false Z33 (.const (.int .i64 0))) [1],oQ 35 (.bin .add Z32 Z34) [0,2],oQ 4 (.mv Z35) [3,0,1,2,3]]
def l52r9:List AOper :=
 [oQ 36 (.mv Z5) [],oQ 37 (.mv Z8) [],oQ 38 (.minmax true Z37 (.const (.int .i64 0))) [1],oQ 39 (.bin .add Z36 Z38) [0,2],oQ 5 (.mv Z39) [3,0,1,2,3]]
def l52r10:List AOper :=
 [oQ 40 (.bin .add Z19 (.const (.int .i64 1))) [],oQ 19 (.mv Z40) [0]]
def l52r11:List AOper :=
 [oQ 41 (.mv Z4) [],oQ 42 (.mv Z5) [],oQ 2 (.mv Z41) [0,0],oQ 3 (.mv Z42) [1,2,0,1,2]]
def l52:AFn :=
 (AFn.mk 43 1 (.seq (.reg l52r0) (.seq (.seq (.reg l52r1) (.cond (.tmp 11) (.seq (.reg l52r2) .ret) .skip)) (.seq (.draw l52r3) (.seq (.seq (.reg l52r4) (.block 0 (.loop (.seq (.reg l52r5) (.seq (.cond (.tmp 20) .skip (.exit 0)) (.seq (.block 1 (.seq (.reg l52r6) (.seq (.reg l52r7) (.seq (.reg l52r8) (.reg l52r9))))) (.reg l52r10))))))) (.seq (.reg l52r11) .ret))))) [.tmp 2,.tmp 3])
theorem l52_eq:lowFn Tryz.prog 52=some l52:=by kernel_rfl
def l54r0:List AOper :=
 [oQ 2 (.box Z0) [],oQ 4 (.mv (.const (.bool false))) []]
def l54r1:List AOper :=
 [oQ 6 (.fld 1 Z2) [],oQ 7 (.load false 1 Z6) [0],oQ 8 (.mv Z1) [],oQ 9 (.idxA 5 Z7 Z8) [1,2],oQ 10 (.load true 5 Z9) [3],oQ 5 (.alloc [.int .i64 0,.int .i64 0,.slice none 0 0,.slice none 0 0,.bool false]) [],nQ (.store 5 Z5 Z10) (5::4::uQ 6)]
def l54r2:List AOper :=
 [oQ 11 (.fld 0 Z5) [],oQ 12 (.load false 1 Z11) [0],oQ 13 (.mv Z1) [],oQ 14 (.bin .sub Z13 (.const (.int .i64 1))) [2],oQ 15 (.call 56 [Z12,.const (.int .i64 (-1)),Z14]) [1,3],oQ 16 (.un .not Z15) [4],oQ 17 (.mv Z16) [5,4],gQ 18 (.fld 1 Z5) (some (17,false)) [6],gQ 19 (.load true 3 Z18) (some (17,false)) [7,6],gQ 20 (.call 92 [Z19]) (some (17,false)) [8,6,6],gQ 21 (.un .not Z20) (some (17,false)) [9,6],oQ 22 (.pick Z17 (.const (.bool true)) Z21) [6,10]]
def l54r3:List AOper :=
 [oQ 4 (.mv (.const (.bool false))) []]
def l54r4:List AOper :=
 [oQ 23 (.fld 4 Z5) [],oQ 24 (.load false 1 Z23) [0],oQ 25 (.un .not Z24) [1],oQ 26 (.mv Z25) [2],gQ 27 (.fld 1 Z5) (some (26,false)) [3],gQ 28 (.load true 3 Z27) (some (26,false)) [4,3],gQ 29 (.fld 0 Z2) (some (26,false)) [3],gQ 30 (.load false 1 Z29) (some (26,false)) [6,3],gQ 31 (.len Z30) (some (26,false)) [7,3],gQ 32 (.call 93 [Z28,Z31]) (some (26,false)) [5,8,3,3],gQ 33 (.mv Z32) (some (26,false)) [9,9,3],gQ 34 (.fld 0 Z5) (some (33,true)) [10],gQ 35 (.load false 1 Z34) (some (33,true)) [11,10],gQ 36 (.bin .lss Z35 (.const (.int .i64 0))) (some (33,true)) [12,10],gQ 37 (.mv Z36) (some (33,true)) [13,10,10],gQ 38 (.fld 1 Z2) (some (37,false)) [14],gQ 39 (.load false 1 Z38) (some (37,false)) [15,14],gQ 40 (.fld 0 Z5) (some (37,false)) [14],gQ 41 (.load false 1 Z40) (some (37,false)) [17,14],gQ 42 (.idxA 5 Z39 Z41) (some (37,false)) [16,18,14],gQ 43 (.fld 4 Z42) (some (37,false)) [19,14],gQ 44 (.load false 1 Z43) (some (37,false)) [20,14],gQ 45 (.pick Z37 (.const (.bool true)) Z44) (some (33,true)) [14,21,10],gQ 46 (.pick Z33 Z45 (.const (.bool false))) (some (26,false)) [10,22,3],oQ 47 (.pick Z26 (.const (.bool true)) Z46) [3,23],oQ 4 (.mv Z47) (24::14::uQ 25)]
def l54:AFn :=
 (AFn.mk 48 2 (.seq (.reg l54r0) (.seq (.reg l54r1) (.seq (.seq (.reg l54r2) (.cond (.tmp 22) (.seq (.reg l54r3) .ret) .skip)) (.seq (.reg l54r4) .ret)))) [.tmp 4])
theorem l54_eq:lowFn Tryz.prog 54=some l54:=by kernel_rfl
def l55r0:List AOper :=
 [oQ 2 (.mv (.const (.bool false))) []]
def l55r1:List AOper :=
 [oQ 3 (.mv Z0) [],oQ 4 (.len Z3) [0],oQ 5 (.bin .leq Z4 (.const (.int .i64 60))) [1],oQ 6 (.mv Z5) [2],gQ 7 (.mv Z0) (some (6,true)) [3],gQ 8 (.call 58 [Z7,.const (.int .i64 0),.const (.int .i64 255)]) (some (6,true)) [4,3,3],oQ 9 (.pick Z6 Z8 (.const (.bool false))) [3,5],oQ 2 (.mv Z9) (6::5::uQ 7)]
def l55:AFn :=
 (AFn.mk 10 1 (.seq (.reg l55r0) (.seq (.reg l55r1) .ret)) [.tmp 2])
theorem l55_eq:lowFn Tryz.prog 55=some l55:=by kernel_rfl
def l56r0:List AOper :=
 [oQ 6 (.mv (.const (.bool false))) []]
def l56r1:List AOper :=
 [oQ 7 (.mv Z1) [],oQ 8 (.mv Z0) [],oQ 9 (.bin .leq Z7 Z8) [0,1],oQ 10 (.mv Z9) [2],gQ 11 (.mv Z0) (some (10,true)) [3],gQ 12 (.mv Z2) (some (10,true)) [3],gQ 13 (.bin .leq Z11 Z12) (some (10,true)) [4,5,3],oQ 14 (.pick Z10 Z13 (.const (.bool false))) [3,6],oQ 6 (.mv Z14) (7::3::uQ 8)]
def l56:AFn :=
 (AFn.mk 15 3 (.seq (.reg l56r0) (.seq (.reg l56r1) .ret)) [.tmp 6])
theorem l56_eq:lowFn Tryz.prog 56=some l56:=by kernel_rfl
def l57r0:List AOper :=
 [oQ 2 (.mv (.const (.int .i64 0))) []]
def l57r1:List AOper :=
 [oQ 3 (.bslice 1 [.int .i64 0] [(0,.const (.int .i64 1)),(1,.const (.int .i64 3)),(2,.const (.int .i64 4)),(3,.const (.int .i64 1)),(4,.const (.int .i64 2)),(5,.const (.int .i64 2)),(6,.const (.int .i64 1)),(7,.const (.int .i64 1))] 8) [],oQ 4 (.mv Z0) [],oQ 5 (.idxA 1 Z3 Z4) [0,1],oQ 6 (.load false 1 Z5) [2],oQ 2 (.mv Z6) [3,0,1,2,3]]
def l57:AFn :=
 (AFn.mk 7 1 (.seq (.reg l57r0) (.seq (.reg l57r1) .ret)) [.tmp 2])
theorem l57_eq:lowFn Tryz.prog 57=some l57:=by kernel_rfl
def l58r0:List AOper :=
 [oQ 6 (.mv (.const (.bool false))) []]
def l58r1:List AOper :=
 [oQ 7 (.mv (.const (.int .i64 0))) []]
def l58r2:List AOper :=
 [oQ 8 (.mv Z7) [],oQ 9 (.mv Z0) [],oQ 10 (.len Z9) [1],oQ 11 (.bin .lss Z8 Z10) [0,2]]
def l58r3:List AOper :=
 [oQ 14 (.mv Z0) [],oQ 15 (.mv Z7) [],oQ 16 (.idxA 1 Z14 Z15) [0,1],oQ 17 (.load false 1 Z16) [2],oQ 18 (.mv Z1) [],oQ 19 (.mv Z2) [],oQ 20 (.call 56 [Z17,Z18,Z19]) [3,4,5],oQ 21 (.un .not Z20) [6]]
def l58r4:List AOper :=
 [oQ 6 (.mv (.const (.bool false))) []]
def l58r5:List AOper :=
 [oQ 12 (.mv Z7) [],oQ 13 (.bin .add Z12 (.const (.int .i64 1))) [0],oQ 7 (.mv Z13) [1,0,1]]
def l58r6:List AOper :=
 [oQ 6 (.mv (.const (.bool true))) []]
def l58:AFn :=
 (AFn.mk 22 3 (.seq (.reg l58r0) (.seq (.seq (.reg l58r1) (.block 0 (.loop (.seq (.seq (.reg l58r2) (.cond (.tmp 11) .skip (.exit 0))) (.seq (.block 1 (.seq (.reg l58r3) (.cond (.tmp 21) (.seq (.reg l58r4) .ret) .skip))) (.reg l58r5)))))) (.seq (.reg l58r6) .ret))) [.tmp 6])
theorem l58_eq:lowFn Tryz.prog 58=some l58:=by kernel_rfl
def l59r0:List AOper :=
 [oQ 2 (.box Z0) [],oQ 3 (.box Z1) [],oQ 4 (.alloc [.slice none 0 0,.slice none 0 0]) [],oQ 5 (.mv (.const (.bool false))) []]
def l59r1:List AOper :=
 [oQ 7 (.fld 1 Z3) [],oQ 8 (.load false 1 Z7) [0],oQ 6 (.mv Z8) [1,0,1]]
def l59r2:List AOper :=
 [oQ 9 (.fld 0 Z3) [],oQ 10 (.load false 1 Z9) [0]]
def l59r3:List AOper :=
 [oQ 12 (.bin .eql Z10 (.const (.int .i64 0))) [],oQ 11 (.mv Z12) [0]]
def l59r4a:List AOper :=
 [oQ 13 (.load true 2 Z2) [],oQ 14 (.mv Z6) [],oQ 15 (.idxA 1 Z14 (.const (.int .i64 0))) [1],oQ 16 (.load false 1 Z15) [2],oQ 17 (.call 94 [Z13,Z16]) [0,3],oQ 18 (.extract Z17 0) [4],oQ 19 (.extract Z17 1) [4]]
def l59r4b:List AOper :=
 [nQ (.store 2 Z4 Z18) (5::4::uQ 7),oQ 5 (.mv Z19) (6::7::uQ 8)]
def l59r4:List AOper:=l59r4a++l59r4b
def l59r5:List AOper :=
 [oQ 21 (.bin .eql Z10 (.const (.int .i64 1))) [],oQ 20 (.mv Z21) [0]]
def l59r6a:List AOper :=
 [oQ 22 (.load true 2 Z2) [],oQ 23 (.mv Z6) [],oQ 24 (.idxA 1 Z23 (.const (.int .i64 0))) [1],oQ 25 (.load false 1 Z24) [2],oQ 26 (.mv Z6) [],oQ 27 (.idxA 1 Z26 (.const (.int .i64 1))) [4],oQ 28 (.load false 1 Z27) [5],oQ 29 (.bslice 1 [.int .i64 0] [(0,Z28)] 1) [6],oQ 30 (.mv Z6) [],oQ 31 (.idxA 1 Z30 (.const (.int .i64 2))) [8],oQ 32 (.load false 1 Z31) [9],oQ 33 (.bslice 1 [.int .i64 0] [(0,Z32)] 1) [10],oQ 34 (.build [.int .i64 0,.slice none 0 0,.slice none 0 0] [(0,1,Z25),(1,1,Z29),(2,1,Z33)]) [3,7,11],oQ 35 (.call 95 [Z22,Z34]) [0,12],oQ 36 (.extract Z35 0) [13],oQ 37 (.extract Z35 1) [13]]
def l59r6b:List AOper :=
 [nQ (.store 2 Z4 Z36) (14::13::uQ 16),oQ 5 (.mv Z37) (15::16::uQ 17)]
def l59r6:List AOper:=l59r6a++l59r6b
def l59r7:List AOper :=
 [oQ 39 (.bin .eql Z10 (.const (.int .i64 2))) [],oQ 38 (.mv Z39) [0]]
def l59r8a:List AOper :=
 [oQ 40 (.load true 2 Z2) [],oQ 41 (.mv Z6) [],oQ 42 (.idxA 1 Z41 (.const (.int .i64 0))) [1],oQ 43 (.load false 1 Z42) [2],oQ 44 (.mv Z6) [],oQ 45 (.idxA 1 Z44 (.const (.int .i64 1))) [4],oQ 46 (.load false 1 Z45) [5],oQ 47 (.mv Z6) [],oQ 48 (.idxA 1 Z47 (.const (.int .i64 2))) [7],oQ 49 (.load false 1 Z48) [8],oQ 50 (.mv Z6) [],oQ 51 (.idxA 1 Z50 (.const (.int .i64 3))) [10],oQ 52 (.load false 1 Z51) [11],oQ 53 (.build [.int .i64 0,.int .i64 0,.int .i64 0,.bool false,.bool false] [(0,1,Z46),(1,1,Z49),(2,1,Z52),(3,1,.const (.bool true)),(4,1,.const (.bool true))]) [6,9,12],oQ 54 (.call 96 [Z40,Z43,.const (.int .i64 0),Z53]) [0,3,13],oQ 55 (.extract Z54 0) [14],oQ 56 (.extract Z54 1) [14]]
def l59r8b:List AOper :=
 [nQ (.store 2 Z4 Z55) (15::14::uQ 17),oQ 5 (.mv Z56) (16::17::uQ 18)]
def l59r8:List AOper:=l59r8a++l59r8b
def l59r9:List AOper :=
 [oQ 58 (.bin .eql Z10 (.const (.int .i64 3))) [],oQ 57 (.mv Z58) [0]]
def l59r10a:List AOper :=
 [oQ 59 (.load true 2 Z2) [],oQ 60 (.mv Z6) [],oQ 61 (.idxA 1 Z60 (.const (.int .i64 0))) [1],oQ 62 (.load false 1 Z61) [2],oQ 63 (.build [.int .i64 0,.int .i64 0,.int .i64 0,.bool false,.bool false] [(2,1,.const (.int .i64 (-1)))]) [],oQ 64 (.call 96 [Z59,Z62,.const (.int .i64 0),Z63]) [0,3,4],oQ 65 (.extract Z64 0) [5],oQ 66 (.extract Z64 1) [5]]
def l59r10b:List AOper :=
 [nQ (.store 2 Z4 Z65) (6::5::uQ 8),oQ 5 (.mv Z66) (7::8::uQ 9)]
def l59r10:List AOper:=l59r10a++l59r10b
def l59r11:List AOper :=
 [oQ 68 (.bin .eql Z10 (.const (.int .i64 4))) [],oQ 67 (.mv Z68) [0]]
def l59r12a:List AOper :=
 [oQ 69 (.load true 2 Z2) [],oQ 70 (.mv Z6) [],oQ 71 (.idxA 1 Z70 (.const (.int .i64 0))) [1],oQ 72 (.load false 1 Z71) [2],oQ 73 (.mv Z6) [],oQ 74 (.idxA 1 Z73 (.const (.int .i64 1))) [4],oQ 75 (.load false 1 Z74) [5],oQ 76 (.call 97 [Z69,Z72,Z75]) [0,3,6],oQ 77 (.extract Z76 0) [7],oQ 78 (.extract Z76 1) [7]]
def l59r12b:List AOper :=
 [nQ (.store 2 Z4 Z77) (8::7::uQ 10),oQ 5 (.mv Z78) (9::10::uQ 11)]
def l59r12:List AOper:=l59r12a++l59r12b
def l59r13:List AOper :=
 [oQ 80 (.bin .eql Z10 (.const (.int .i64 5))) [],oQ 79 (.mv Z80) [0]]
def l59r14a:List AOper :=
 [oQ 81 (.load true 2 Z2) [],oQ 82 (.mv Z6) [],oQ 83 (.idxA 1 Z82 (.const (.int .i64 0))) [1],oQ 84 (.load false 1 Z83) [2],oQ 85 (.mv Z6) [],oQ 86 (.idxA 1 Z85 (.const (.int .i64 1))) [4],oQ 87 (.load false 1 Z86) [5],oQ 88 (.call 98 [Z81,Z84,Z87]) [0,3,6],oQ 89 (.extract Z88 0) [7],oQ 90 (.extract Z88 1) [7]]
def l59r14b:List AOper :=
 [nQ (.store 2 Z4 Z89) (8::7::uQ 10),oQ 5 (.mv Z90) (9::10::uQ 11)]
def l59r14:List AOper:=l59r14a++l59r14b
def l59r15:List AOper :=
 [oQ 92 (.bin .eql Z10 (.const (.int .i64 7))) [],oQ 91 (.mv Z92) [0]]
def l59r16a:List AOper :=
 [oQ 93 (.load true 2 Z2) [],oQ 94 (.mv Z6) [],oQ 95 (.idxA 1 Z94 (.const (.int .i64 0))) [1],oQ 96 (.load false 1 Z95) [2],oQ 97 (.call 99 [Z93,Z96]) [0,3],oQ 98 (.extract Z97 0) [4],oQ 99 (.extract Z97 1) [4]]
def l59r16b:List AOper :=
 [nQ (.store 2 Z4 Z98) (5::4::uQ 7),oQ 5 (.mv Z99) (6::7::uQ 8)]
def l59r16:List AOper:=l59r16a++l59r16b
def l59r17a:List AOper :=
 [oQ 100 (.load true 2 Z2) [],oQ 101 (.load true 2 Z2) [],oQ 102 (.mv Z6) [],oQ 103 (.idxA 1 Z102 (.const (.int .i64 0))) [2],oQ 104 (.load false 1 Z103) [3],oQ 105 (.call 100 [Z101,Z104]) [1,4]]
def l59r17b:List AOper :=
 [nQ (.store 2 Z4 Z100) [0,5,0],oQ 5 (.mv Z105) (5::6::uQ 7)]
def l59r17:List AOper:=l59r17a++l59r17b
def l59:AFn :=
 (AFn.mk 106 2 (.seq (.reg l59r0) (.seq (.reg l59r1) (.seq (.seq (.reg l59r2) (.block 0 (.seq (.reg l59r3) (.cond (.tmp 11) (.seq (.draw l59r4) .ret) (.seq (.reg l59r5) (.cond (.tmp 20) (.seq (.draw l59r6) .ret) (.seq (.reg l59r7) (.cond (.tmp 38) (.seq (.draw l59r8) .ret) (.seq (.reg l59r9) (.cond (.tmp 57) (.seq (.draw l59r10) .ret) (.seq (.reg l59r11) (.cond (.tmp 67) (.seq (.draw l59r12) .ret) (.seq (.reg l59r13) (.cond (.tmp 79) (.seq (.draw l59r14) .ret) (.seq (.reg l59r15) (.cond (.tmp 91) (.seq (.draw l59r16) .ret) .skip)))))))))))))))) (.seq (.draw l59r17) .ret)))) [.cell 4 true 2,.tmp 5])
theorem l59_eq:lowFn Tryz.prog 59=some l59:=by kernel_rfl
def l60r0:List AOper :=
 [oQ 2 (.mv (.const (.string (ByteArray.mk (Array.mk []))))) []]
def l60r1:List AOper :=
 [oQ 3 (.mv (.const (.string (ByteArray.mk (Array.mk []))))) []]
def l60r2:List AOper :=
 [oQ 4 (.mv (.const (.int .i64 0))) []]
def l60r3:List AOper :=
 [oQ 5 (.mv Z4) [],oQ 6 (.mv Z0) [],oQ 7 (.len Z6) [1],oQ 8 (.bin .lss Z5 Z7) [0,2]]
def l60r4:List AOper :=
 [oQ 11 (.mv Z3) [],oQ 12 (.bin .add Z11 (.const (.string (ByteArray.mk (Array.mk [(32:UInt8)]))))) [0],oQ 13 (.mv Z0) [],oQ 14 (.mv Z4) [],oQ 15 (.idxA 1 Z13 Z14) [2,3],oQ 16 (.load false 1 Z15) [4],oQ 17 (.call 62 [Z16]) [5],oQ 18 (.bin .add Z12 Z17) [1,6],oQ 3 (.mv Z18) (7::6::uQ 8)]
def l60r5:List AOper :=
 [oQ 9 (.mv Z4) [],oQ 10 (.bin .add Z9 (.const (.int .i64 1))) [0],oQ 4 (.mv Z10) [1,0,1]]
def l60r6:List AOper :=
 [oQ 19 (.mv Z3) [],oQ 2 (.mv Z19) [0,0]]
def l60:AFn :=
 (AFn.mk 20 1 (.seq (.reg l60r0) (.seq (.reg l60r1) (.seq (.seq (.reg l60r2) (.block 0 (.loop (.seq (.seq (.reg l60r3) (.cond (.tmp 8) .skip (.exit 0))) (.seq (.block 1 (.reg l60r4)) (.reg l60r5)))))) (.seq (.reg l60r6) .ret)))) [.tmp 2])
theorem l60_eq:lowFn Tryz.prog 60=some l60:=by kernel_rfl
def l61r0:List AOper :=
 [oQ 3 (.box Z1) [],oQ 4 (.mv (.const (.slice none 0 0))) []]
def l61r1:List AOper :=
 [oQ 8 (.bslice 1 [.int .i64 0] [] 0) [],oQ 5 (.mv Z8) [0,0]]
def l61r2:List AOper :=
 [oQ 9 (.load true 3 Z3) [],oQ 10 (.call 101 [Z9]) [0],oQ 6 (.mv Z10) [1,1,0,1]]
def l61r3:List AOper :=
 [oQ 7 (.mv (.const (.int .i64 0))) []]
def l61r4:List AOper :=
 [oQ 11 (.mv Z7) [],oQ 12 (.mv Z6) [],oQ 13 (.len Z12) [1],oQ 14 (.bin .lss Z11 Z13) [0,2]]
def l61r5:List AOper :=
 [oQ 17 (.mv Z5) [],oQ 18 (.mv Z0) [],oQ 19 (.mv Z6) [],oQ 20 (.mv Z7) [],oQ 21 (.idxA 1 Z19 Z20) [2,3],oQ 22 (.load false 1 Z21) [4],oQ 23 (.idxA 1 Z18 Z22) [1,5],oQ 24 (.load false 1 Z23) [6],oQ 25 (.bslice 1 [.int .i64 0] [(0,Z24)] 1) [7],oQ 26 (.append 1 Z17 Z25) [0,8],oQ 5 (.mv Z26) (9::9::uQ 10)]
def l61r6:List AOper :=
 [oQ 15 (.mv Z7) [],oQ 16 (.bin .add Z15 (.const (.int .i64 1))) [0],oQ 7 (.mv Z16) [1,0,1]]
def l61r7:List AOper :=
 [oQ 27 (.mv Z5) [],oQ 4 (.mv Z27) [0,0]]
def l61:AFn :=
 (AFn.mk 28 2 (.seq (.reg l61r0) (.seq (.reg l61r1) (.seq (.reg l61r2) (.seq (.seq (.reg l61r3) (.block 0 (.loop (.seq (.seq (.reg l61r4) (.cond (.tmp 14) .skip (.exit 0))) (.seq (.block 1 (.reg l61r5)) (.reg l61r6)))))) (.seq (.reg l61r7) .ret))))) [.tmp 4])
theorem l61_eq:lowFn Tryz.prog 61=some l61:=by kernel_rfl
def l62r0:List AOper :=
 [oQ 2 (.mv (.const (.string (ByteArray.mk (Array.mk []))))) []]
def l62r1:List AOper :=
 [oQ 3 (.mv Z0) [],oQ 4 (.bin .lss Z3 (.const (.int .i64 0))) [0],oQ 5 (.mv Z4) [1],gQ 6 (.mv Z0) (some (5,true)) [2],gQ 7 (.mv Z0) (some (5,true)) [2],gQ 8 (.un .neg Z7) (some (5,true)) [4,2],gQ 9 (.bin .eql Z6 Z8) (some (5,true)) [3,5,2],oQ 10 (.pick Z5 Z9 (.const (.bool false))) [2,6]]
def l62r2:List AOper :=
 [oQ 2 (.mv (.const (.string (ByteArray.mk (Array.mk [(45:UInt8),(57:UInt8),(50:UInt8),(50:UInt8),(51:UInt8),(51:UInt8),(55:UInt8),(50:UInt8),(48:UInt8),(51:UInt8),(54:UInt8),(56:UInt8),(53:UInt8),(52:UInt8),(55:UInt8),(55:UInt8),(53:UInt8),(56:UInt8),(48:UInt8),(56:UInt8)]))))) []]
def l62r3:List AOper :=
 [oQ 11 (.mv Z0) [],oQ 12 (.bin .lss Z11 (.const (.int .i64 0))) [0]]
def l62r4:List AOper :=
 [oQ 13 (.mv Z0) [],oQ 14 (.un .neg Z13) [0],oQ 15 (.call 62 [Z14]) [1],oQ 16 (.bin .add (.const (.string (ByteArray.mk (Array.mk [(45:UInt8)])))) Z15) [2],oQ 2 (.mv Z16) [3,2,0,1,2,3]]
def l62r5:List AOper :=
 [oQ 17 (.mv Z0) [],oQ 18 (.bin .lss Z17 (.const (.int .i64 10))) [0]]
def l62r6:List AOper :=
 [oQ 19 (.mv Z0) [],oQ 20 (.mv Z0) [],oQ 21 (.bin .add Z20 (.const (.int .i64 1))) [1],oQ 22 (.sliceS (.const (.string (ByteArray.mk (Array.mk [(48:UInt8),(49:UInt8),(50:UInt8),(51:UInt8),(52:UInt8),(53:UInt8),(54:UInt8),(55:UInt8),(56:UInt8),(57:UInt8)])))) (some Z19) (some Z21)) [0,2],oQ 2 (.mv Z22) [3,0,1,2,3]]
def l62r7:List AOper :=
 [oQ 23 (.mv Z0) [],oQ 24 (.bin .quo Z23 (.const (.int .i64 10))) [0],oQ 25 (.call 62 [Z24]) [1],oQ 26 (.mv Z0) [],oQ 27 (.bin .rem Z26 (.const (.int .i64 10))) [3],oQ 28 (.call 62 [Z27]) [4,2],oQ 29 (.bin .add Z25 Z28) [2,5],oQ 2 (.mv Z29) (6::5::uQ 7)]
def l62:AFn :=
 (AFn.mk 30 1 (.seq (.reg l62r0) (.seq (.seq (.reg l62r1) (.cond (.tmp 10) (.seq (.reg l62r2) .ret) .skip)) (.seq (.seq (.reg l62r3) (.cond (.tmp 12) (.seq (.reg l62r4) .ret) .skip)) (.seq (.seq (.reg l62r5) (.cond (.tmp 18) (.seq (.reg l62r6) .ret) .skip)) (.seq (.reg l62r7) .ret))))) [.tmp 2])
theorem l62_eq:lowFn Tryz.prog 62=some l62:=by kernel_rfl
def l63r0:List AOper :=
 [oQ 2 (.mv (.const (.slice none 0 0))) []]
def l63r1:List AOper :=
 [oQ 3 (.bslice 1 [.int .i64 0] [] 0) [],oQ 4 (.mv Z0) [],oQ 5 (.append 1 Z3 Z4) [0,1],oQ 2 (.mv Z5) [2,2,0,1,2]]
def l63:AFn :=
 (AFn.mk 6 1 (.seq (.reg l63r0) (.seq (.reg l63r1) .ret)) [.tmp 2])
theorem l63_eq:lowFn Tryz.prog 63=some l63:=by kernel_rfl
def l64r0:List AOper :=
 [oQ 1 (.box Z0) [],oQ 2 (.alloc [.int .i64 0,.slice none 0 0,.slice none 0 0]) []]
def l64r1a:List AOper :=
 [oQ 3 (.fld 0 Z1) [],oQ 4 (.load false 1 Z3) [0],oQ 5 (.fld 1 Z1) [],oQ 6 (.load false 1 Z5) [2],oQ 7 (.call 63 [Z6]) [3],oQ 8 (.fld 2 Z1) [],oQ 9 (.load false 1 Z8) [5],oQ 10 (.call 63 [Z9]) [6,4]]
def l64r1b:List AOper :=
 [oQ 11 (.build [.int .i64 0,.slice none 0 0,.slice none 0 0] [(0,1,Z4),(1,1,Z7),(2,1,Z10)]) [1,4,7],nQ (.store 3 Z2 Z11) (8::7::uQ 9)]
def l64r1:List AOper:=l64r1a++l64r1b
def l64:AFn :=
 (AFn.mk 12 1 (.seq (.reg l64r0) (.seq (.draw l64r1) .ret)) [.cell 2 true 3])
theorem l64_eq:lowFn Tryz.prog 64=some l64:=by kernel_rfl
def l66r0:List AOper :=
 [oQ 4 (.mv (.const (.bool false))) []]
def l66r1:List AOper :=
 [oQ 5 (.mv Z1) [],oQ 6 (.un .neg Z5) [0],oQ 7 (.mv Z0) [],oQ 8 (.bin .leq Z6 Z7) [1,2],oQ 9 (.mv Z8) [3],gQ 10 (.mv Z0) (some (9,true)) [4],gQ 11 (.mv Z1) (some (9,true)) [4],gQ 12 (.bin .leq Z10 Z11) (some (9,true)) [5,6,4],oQ 13 (.pick Z9 Z12 (.const (.bool false))) [4,7],oQ 4 (.mv Z13) (8::4::uQ 9)]
def l66:AFn :=
 (AFn.mk 14 2 (.seq (.reg l66r0) (.seq (.reg l66r1) .ret)) [.tmp 4])
theorem l66_eq:lowFn Tryz.prog 66=some l66:=by kernel_rfl
def l67r0:List AOper :=
 [oQ 2 (.box Z0) [],oQ 4 (.alloc [.slice none 0 0,.slice none 0 0]) [],oQ 5 (.mv (.const (.bool false))) []]
def l67r1a:List AOper :=
 [oQ 7 (.load true 2 Z2) [],oQ 8 (.call 19 [Z7]) [0],oQ 9 (.un .not Z8) [1],oQ 10 (.mv Z9) [2,1],gQ 11 (.mv Z1) (some (10,false)) [3],gQ 12 (.call 83 [Z11]) (some (10,false)) [4,3,3],gQ 13 (.un .not Z12) (some (10,false)) [5,3],oQ 14 (.pick Z10 (.const (.bool true)) Z13) [3,6],oQ 15 (.mv Z14) [7,5],gQ 16 (.load true 2 Z2) (some (15,false)) [8],gQ 17 (.call 48 [Z16,.const (.int .i64 (-1))]) (some (15,false)) [9,8,8],gQ 18 (.call 49 [Z17]) (some (15,false)) [10,10,8],gQ 19 (.load false 1 (.global 0)) (some (15,false)) [8]]
def l67r1b:List AOper :=
 [gQ 20 (.call 47 [Z18,Z19]) (some (15,false)) [11,12,11,8],oQ 21 (.pick Z15 (.const (.bool true)) Z20) [8,13]]
def l67r1:List AOper:=l67r1a++l67r1b
def l67r2:List AOper :=
 [oQ 22 (.build [.slice none 0 0,.slice none 0 0] []) [],nQ (.store 2 Z4 Z22) [0,0],oQ 5 (.mv (.const (.bool false))) [1,0,1]]
def l67r3:List AOper :=
 [oQ 23 (.mv Z1) [],oQ 24 (.mkslice 1 [.int .i64 0] Z23 Z23) [0,0],oQ 6 (.mv Z24) [1,0,1]]
def l67r4:List AOper :=
 [oQ 25 (.mv Z6) [],oQ 26 (.fld 0 Z2) [],oQ 27 (.load false 1 Z26) [1],oQ 28 (.cpy 1 Z25 Z27) [0,2]]
def l67r5:List AOper :=
 [oQ 29 (.load true 2 Z2) [],oQ 30 (.mv Z6) [],oQ 31 (.call 103 [Z29,Z30,.const (.bool true)]) [0,1],oQ 32 (.extract Z31 0) [2],oQ 33 (.extract Z31 1) [2],nQ (.store 2 Z4 Z32) (3::2::uQ 5),oQ 5 (.mv Z33) (4::5::uQ 6)]
def l67:AFn :=
 (AFn.mk 34 2 (.seq (.reg l67r0) (.seq (.seq (.draw l67r1) (.cond (.tmp 21) (.seq (.reg l67r2) .ret) .skip)) (.seq (.reg l67r3) (.seq (.reg l67r4) (.seq (.reg l67r5) .ret))))) [.cell 4 true 2,.tmp 5])
theorem l67_eq:lowFn Tryz.prog 67=some l67:=by kernel_rfl
def l68r0:List AOper :=
 [oQ 2 (.box Z0) [],oQ 3 (.box Z1) [],oQ 4 (.alloc [.slice none 0 0,.slice none 0 0]) [],oQ 5 (.mv (.const (.bool false))) []]
def l68r1:List AOper :=
 [oQ 6 (.load true 2 Z2) [],oQ 7 (.call 19 [Z6]) [0],oQ 8 (.un .not Z7) [1],oQ 9 (.mv Z8) [2,1],gQ 10 (.load true 3 Z3) (some (9,false)) [3],gQ 11 (.fld 0 Z2) (some (9,false)) [3],gQ 12 (.load false 1 Z11) (some (9,false)) [5,3],gQ 13 (.len Z12) (some (9,false)) [6,3],gQ 14 (.call 21 [Z10,Z13]) (some (9,false)) [4,7,3,3],gQ 15 (.un .not Z14) (some (9,false)) [8,3],oQ 16 (.pick Z9 (.const (.bool true)) Z15) [3,9]]
def l68r2:List AOper :=
 [oQ 17 (.build [.slice none 0 0,.slice none 0 0] []) [],nQ (.store 2 Z4 Z17) [0,0],oQ 5 (.mv (.const (.bool false))) [1,0,1]]
def l68r3:List AOper :=
 [oQ 18 (.load true 2 Z2) [],oQ 19 (.load true 3 Z3) [],oQ 20 (.call 104 [Z18,.const (.int .i64 (-1)),Z19]) [0,1],oQ 21 (.extract Z20 0) [2],oQ 22 (.extract Z20 1) [2],nQ (.store 2 Z4 Z21) (3::2::uQ 5),oQ 5 (.mv Z22) (4::5::uQ 6)]
def l68:AFn :=
 (AFn.mk 23 2 (.seq (.reg l68r0) (.seq (.seq (.reg l68r1) (.cond (.tmp 16) (.seq (.reg l68r2) .ret) .skip)) (.seq (.reg l68r3) .ret))) [.cell 4 true 2,.tmp 5])
theorem l68_eq:lowFn Tryz.prog 68=some l68:=by kernel_rfl
def l69r0:List AOper :=
 [oQ 4 (.box Z0) [],oQ 7 (.box Z3) [],oQ 8 (.alloc [.slice none 0 0,.slice none 0 0]) [],oQ 9 (.mv (.const (.bool false))) []]
def l69r1:List AOper :=
 [oQ 12 (.load true 2 Z4) [],oQ 13 (.mv Z1) [],oQ 14 (.call 73 [Z12,Z13]) [0,1],oQ 15 (.un .not Z14) [2]]
def l69r2:List AOper :=
 [oQ 16 (.build [.slice none 0 0,.slice none 0 0] []) [],nQ (.store 2 Z8 Z16) [0,0],oQ 9 (.mv (.const (.bool false))) [1,0,1]]
def l69r3a:List AOper :=
 [oQ 18 (.fld 1 Z4) [],oQ 19 (.load false 1 Z18) [0],oQ 20 (.mv Z1) [],oQ 21 (.idxA 5 Z19 Z20) [1,2],oQ 22 (.fld 1 Z21) [3],oQ 23 (.load true 3 Z22) [4],oQ 24 (.mv Z2) [],oQ 25 (.load true 5 Z7) [],oQ 26 (.call 105 [Z23,Z24,Z25]) [5,6,7],oQ 17 (.mv Z26) [8],oQ 27 (.extract Z17 0) [9],oQ 28 (.extract Z17 1) [9],oQ 10 (.alloc [.int .i64 0,.slice none 0 0,.slice none 0 0]) [],nQ (.store 3 Z10 Z27) [12,10,8,0,1,2,3,4,5,6,7,8,9,10,12]]
def l69r3b:List AOper :=
 [oQ 11 (.mv Z28) (11::13::uQ 14)]
def l69r3:List AOper:=l69r3a++l69r3b
def l69r4:List AOper :=
 [oQ 29 (.mv Z11) [],oQ 30 (.un .not Z29) [0]]
def l69r5:List AOper :=
 [oQ 31 (.build [.slice none 0 0,.slice none 0 0] []) [],nQ (.store 2 Z8 Z31) [0,0],oQ 9 (.mv (.const (.bool false))) [1,0,1]]
def l69r6:List AOper :=
 [oQ 32 (.load true 2 Z4) [],oQ 33 (.mv Z1) [],oQ 34 (.load true 3 Z10) [],oQ 35 (.call 104 [Z32,Z33,Z34]) [0,1,2],oQ 36 (.extract Z35 0) [3],oQ 37 (.extract Z35 1) [3],nQ (.store 2 Z8 Z36) (4::3::uQ 6),oQ 9 (.mv Z37) (5::6::uQ 7)]
def l69:AFn :=
 (AFn.mk 38 4 (.seq (.reg l69r0) (.seq (.seq (.reg l69r1) (.cond (.tmp 15) (.seq (.reg l69r2) .ret) .skip)) (.seq (.draw l69r3) (.seq (.seq (.reg l69r4) (.cond (.tmp 30) (.seq (.reg l69r5) .ret) .skip)) (.seq (.reg l69r6) .ret))))) [.cell 8 true 2,.tmp 9])
theorem l69_eq:lowFn Tryz.prog 69=some l69:=by kernel_rfl
def l70r0:List AOper :=
 [oQ 3 (.box Z0) [],oQ 6 (.alloc [.slice none 0 0,.slice none 0 0]) [],oQ 7 (.mv (.const (.bool false))) []]
def l70r1:List AOper :=
 [oQ 8 (.load true 2 Z3) [],oQ 9 (.mv Z1) [],oQ 10 (.call 73 [Z8,Z9]) [0,1],oQ 11 (.un .not Z10) [2]]
def l70r2:List AOper :=
 [oQ 12 (.build [.slice none 0 0,.slice none 0 0] []) [],nQ (.store 2 Z6 Z12) [0,0],oQ 7 (.mv (.const (.bool false))) [1,0,1]]
def l70r3a:List AOper :=
 [oQ 13 (.load true 2 Z3) [],oQ 14 (.fld 0 Z3) [],oQ 15 (.load false 1 Z14) [1],oQ 16 (.fld 1 Z3) [],oQ 17 (.load false 1 Z16) [3],oQ 18 (.mv Z1) [],oQ 19 (.idxA 5 Z17 Z18) [4,5],oQ 20 (.fld 1 Z19) [6],oQ 21 (.load true 3 Z20) [7],oQ 22 (.mv Z2) [],oQ 23 (.call 106 [Z15,Z21,Z22]) [2,8,9],oQ 24 (.extract Z23 0) [10],oQ 25 (.extract Z23 1) [10],oQ 26 (.call 103 [Z13,Z24,Z25]) [0,11,12,10],oQ 27 (.extract Z26 0) [13],oQ 28 (.extract Z26 1) [13]]
def l70r3b:List AOper :=
 [nQ (.store 2 Z6 Z27) (14::13::uQ 16),oQ 7 (.mv Z28) (15::16::uQ 17)]
def l70r3:List AOper:=l70r3a++l70r3b
def l70:AFn :=
 (AFn.mk 29 3 (.seq (.reg l70r0) (.seq (.seq (.reg l70r1) (.cond (.tmp 11) (.seq (.reg l70r2) .ret) .skip)) (.seq (.draw l70r3) .ret))) [.cell 6 true 2,.tmp 7])
theorem l70_eq:lowFn Tryz.prog 70=some l70:=by kernel_rfl
def l71r0:List AOper :=
 [oQ 3 (.box Z0) [],oQ 6 (.alloc [.slice none 0 0,.slice none 0 0]) [],oQ 7 (.mv (.const (.bool false))) []]
def l71r1:List AOper :=
 [oQ 8 (.load true 2 Z3) [],oQ 9 (.mv Z1) [],oQ 10 (.call 73 [Z8,Z9]) [0,1],oQ 11 (.un .not Z10) [2],oQ 12 (.mv Z11) [3,2],gQ 13 (.load true 2 Z3) (some (12,false)) [4],gQ 14 (.mv Z2) (some (12,false)) [4],gQ 15 (.call 73 [Z13,Z14]) (some (12,false)) [5,6,4,4],gQ 16 (.un .not Z15) (some (12,false)) [7,4],oQ 17 (.pick Z12 (.const (.bool true)) Z16) [4,8]]
def l71r2:List AOper :=
 [oQ 18 (.build [.slice none 0 0,.slice none 0 0] []) [],nQ (.store 2 Z6 Z18) [0,0],oQ 7 (.mv (.const (.bool false))) [1,0,1]]
def l71r3a:List AOper :=
 [oQ 19 (.load true 2 Z3) [],oQ 20 (.fld 0 Z3) [],oQ 21 (.load false 1 Z20) [1],oQ 22 (.fld 1 Z3) [],oQ 23 (.load false 1 Z22) [3],oQ 24 (.mv Z1) [],oQ 25 (.idxA 5 Z23 Z24) [4,5],oQ 26 (.fld 1 Z25) [6],oQ 27 (.load true 3 Z26) [7],oQ 28 (.fld 1 Z3) [],oQ 29 (.load false 1 Z28) [9],oQ 30 (.mv Z2) [],oQ 31 (.idxA 5 Z29 Z30) [10,11],oQ 32 (.fld 1 Z31) [12],oQ 33 (.load true 3 Z32) [13],oQ 34 (.call 107 [Z21,Z27,Z33]) [2,8,14],oQ 35 (.extract Z34 0) [15],oQ 36 (.extract Z34 1) [15],oQ 37 (.call 103 [Z19,Z35,Z36]) [0,16,17,15],oQ 38 (.extract Z37 0) [18],oQ 39 (.extract Z37 1) [18]]
def l71r3b:List AOper :=
 [nQ (.store 2 Z6 Z38) (19::18::uQ 21),oQ 7 (.mv Z39) (20::21::uQ 22)]
def l71r3:List AOper:=l71r3a++l71r3b
def l71:AFn :=
 (AFn.mk 40 3 (.seq (.reg l71r0) (.seq (.seq (.reg l71r1) (.cond (.tmp 17) (.seq (.reg l71r2) .ret) .skip)) (.seq (.draw l71r3) .ret))) [.cell 6 true 2,.tmp 7])
theorem l71_eq:lowFn Tryz.prog 71=some l71:=by kernel_rfl
def l72r0:List AOper :=
 [oQ 2 (.box Z0) [],oQ 4 (.alloc [.slice none 0 0,.slice none 0 0]) [],oQ 5 (.mv (.const (.bool false))) []]
def l72r1a:List AOper :=
 [oQ 7 (.load true 2 Z2) [],oQ 8 (.mv Z1) [],oQ 9 (.call 73 [Z7,Z8]) [0,1],oQ 10 (.un .not Z9) [2],oQ 11 (.mv Z10) [3,2],gQ 12 (.load true 2 Z2) (some (11,false)) [4],gQ 13 (.mv Z1) (some (11,false)) [4],gQ 14 (.call 48 [Z12,Z13]) (some (11,false)) [5,6,4,4],gQ 15 (.call 49 [Z14]) (some (11,false)) [7,7,4],gQ 16 (.load false 1 (.global 0)) (some (11,false)) [4]]
def l72r1b:List AOper :=
 [gQ 17 (.call 47 [Z15,Z16]) (some (11,false)) [8,9,8,4],oQ 18 (.pick Z11 (.const (.bool true)) Z17) [4,10]]
def l72r1:List AOper:=l72r1a++l72r1b
def l72r2:List AOper :=
 [oQ 19 (.build [.slice none 0 0,.slice none 0 0] []) [],nQ (.store 2 Z4 Z19) [0,0],oQ 5 (.mv (.const (.bool false))) [1,0,1]]
def l72r3:List AOper :=
 [oQ 20 (.load true 2 Z2) [],oQ 21 (.call 32 [Z20]) [0],oQ 6 (.alloc [.slice none 0 0,.slice none 0 0]) [],nQ (.store 2 Z6 Z21) [2,1,1,0,1,2]]
def l72r4:List AOper :=
 [oQ 22 (.fld 1 Z6) [],oQ 23 (.load false 1 Z22) [0],oQ 24 (.mv Z1) [],oQ 25 (.idxA 5 Z23 Z24) [1,2,0,1,2],oQ 26 (.fld 4 Z25) [3,0,1,2],nQ (.store 1 Z26 (.const (.bool false))) [4,0,1,2]]
def l72r5:List AOper :=
 [oQ 27 (.load true 2 Z6) [],nQ (.store 2 Z4 Z27) [0,0],oQ 5 (.mv (.const (.bool true))) [1,0,1]]
def l72:AFn :=
 (AFn.mk 28 2 (.seq (.reg l72r0) (.seq (.seq (.draw l72r1) (.cond (.tmp 18) (.seq (.reg l72r2) .ret) .skip)) (.seq (.reg l72r3) (.seq (.reg l72r4) (.seq (.reg l72r5) .ret))))) [.cell 4 true 2,.tmp 5])
theorem l72_eq:lowFn Tryz.prog 72=some l72:=by kernel_rfl
def l73r0:List AOper :=
 [oQ 2 (.box Z0) [],oQ 4 (.mv (.const (.bool false))) []]
def l73r1:List AOper :=
 [oQ 5 (.load true 2 Z2) [],oQ 6 (.call 19 [Z5]) [0],oQ 7 (.mv Z6) [1,1],gQ 8 (.mv Z1) (some (7,true)) [2],gQ 9 (.fld 1 Z2) (some (7,true)) [2],gQ 10 (.load false 1 Z9) (some (7,true)) [4,2],gQ 11 (.len Z10) (some (7,true)) [5,2],gQ 12 (.bin .sub Z11 (.const (.int .i64 1))) (some (7,true)) [6,2],gQ 13 (.call 51 [Z8,Z12]) (some (7,true)) [3,7,2,2],oQ 14 (.pick Z7 Z13 (.const (.bool false))) [2,8],oQ 15 (.mv Z14) [9,8],gQ 16 (.fld 1 Z2) (some (15,true)) [10],gQ 17 (.load false 1 Z16) (some (15,true)) [11,10],gQ 18 (.mv Z1) (some (15,true)) [10],gQ 19 (.idxA 5 Z17 Z18) (some (15,true)) [12,13,10],gQ 20 (.fld 4 Z19) (some (15,true)) [14,10],gQ 21 (.load false 1 Z20) (some (15,true)) [15,10],oQ 22 (.pick Z15 Z21 (.const (.bool false))) [10,16],oQ 4 (.mv Z22) (17::10::uQ 18)]
def l73:AFn :=
 (AFn.mk 23 2 (.seq (.reg l73r0) (.seq (.reg l73r1) .ret)) [.tmp 4])
theorem l73_eq:lowFn Tryz.prog 73=some l73:=by kernel_rfl
def l74r0:List AOper :=
 [oQ 2 (.mv (.const (.slice none 0 0))) []]
def l74r1:List AOper :=
 [oQ 3 (.mv Z0) [],oQ 4 (.isnil false Z3) [0]]
def l74r2:List AOper :=
 [oQ 2 (.mv (.const (.slice none 0 0))) []]
def l74r3:List AOper :=
 [oQ 5 (.bslice 1 [.int .i64 0] [] 0) [],oQ 6 (.mv Z0) [],oQ 7 (.append 1 Z5 Z6) [0,1],oQ 2 (.mv Z7) [2,2,0,1,2]]
def l74:AFn :=
 (AFn.mk 8 1 (.seq (.reg l74r0) (.seq (.seq (.reg l74r1) (.cond (.tmp 4) (.seq (.reg l74r2) .ret) .skip)) (.seq (.reg l74r3) .ret))) [.tmp 2])
theorem l74_eq:lowFn Tryz.prog 74=some l74:=by kernel_rfl
def l75r0:List AOper :=
 [oQ 1 (.box Z0) [],oQ 2 (.alloc [.int .i64 0,.slice none 0 0,.slice none 0 0]) []]
def l75r1a:List AOper :=
 [oQ 3 (.fld 0 Z1) [],oQ 4 (.load false 1 Z3) [0],oQ 5 (.fld 1 Z1) [],oQ 6 (.load false 1 Z5) [2],oQ 7 (.call 74 [Z6]) [3],oQ 8 (.fld 2 Z1) [],oQ 9 (.load false 1 Z8) [5],oQ 10 (.call 74 [Z9]) [6,4]]
def l75r1b:List AOper :=
 [oQ 11 (.build [.int .i64 0,.slice none 0 0,.slice none 0 0] [(0,1,Z4),(1,1,Z7),(2,1,Z10)]) [1,4,7],nQ (.store 3 Z2 Z11) (8::7::uQ 9)]
def l75r1:List AOper:=l75r1a++l75r1b
def l75:AFn :=
 (AFn.mk 12 1 (.seq (.reg l75r0) (.seq (.draw l75r1) .ret)) [.cell 2 true 3])
theorem l75_eq:lowFn Tryz.prog 75=some l75:=by kernel_rfl
def l76r0:List AOper :=
 [oQ 4 (.mv (.const (.string (ByteArray.mk (Array.mk []))))) []]
def l76r1:List AOper :=
 [oQ 7 (.mv Z1) [],oQ 8 (.len Z7) [0],oQ 9 (.mv (.const (.int .i64 0))) []]
def l76r2:List AOper :=
 [oQ 10 (.bin .lss Z9 Z8) []]
def l76r3:List AOper :=
 [oQ 11 (.idxA 1 Z7 Z9) [],oQ 12 (.load false 1 Z11) [0],oQ 6 (.mv Z12) [1,0,1]]
def l76r4:List AOper :=
 [oQ 13 (.mv Z0) [],oQ 14 (.mv Z6) [],oQ 15 (.call 108 [Z14]) [1],oQ 16 (.bin .add (.const (.string (ByteArray.mk (Array.mk [(32:UInt8)])))) Z15) [2],oQ 17 (.bin .add Z13 Z16) [0,3],oQ 0 (.mv Z17) (4::2::uQ 5)]
def l76r5:List AOper :=
 [oQ 18 (.bin .add Z9 (.const (.int .i64 1))) [],oQ 9 (.mv Z18) [0]]
def l76r6:List AOper :=
 [oQ 19 (.mv Z0) [],oQ 4 (.mv Z19) [0,0]]
def l76:AFn :=
 (AFn.mk 20 2 (.seq (.reg l76r0) (.seq (.seq (.reg l76r1) (.block 0 (.loop (.seq (.reg l76r2) (.seq (.cond (.tmp 10) .skip (.exit 0)) (.seq (.block 1 (.seq (.reg l76r3) (.reg l76r4))) (.reg l76r5))))))) (.seq (.reg l76r6) .ret))) [.tmp 4])
theorem l76_eq:lowFn Tryz.prog 76=some l76:=by kernel_rfl
def l77r0:List AOper :=
 [oQ 2 (.box Z0) [],oQ 4 (.mv (.const (.slice none 0 0))) []]
def l77r1:List AOper :=
 [oQ 5 (.load true 2 Z2) [],oQ 6 (.mv Z1) [],oQ 7 (.call 73 [Z5,Z6]) [0,1],oQ 8 (.un .not Z7) [2]]
def l77r2:List AOper :=
 [oQ 4 (.mv (.const (.slice none 0 0))) []]
def l77r3a:List AOper :=
 [oQ 9 (.fld 0 Z2) [],oQ 10 (.load false 1 Z9) [0],oQ 11 (.fld 1 Z2) [],oQ 12 (.load false 1 Z11) [2],oQ 13 (.mv Z1) [],oQ 14 (.idxA 5 Z12 Z13) [3,4],oQ 15 (.fld 1 Z14) [5],oQ 16 (.load true 3 Z15) [6]]
def l77r3b:List AOper :=
 [oQ 17 (.call 109 [Z10,Z16]) [1,7],oQ 4 (.mv Z17) (8::8::uQ 9)]
def l77r3:List AOper:=l77r3a++l77r3b
def l77:AFn :=
 (AFn.mk 18 2 (.seq (.reg l77r0) (.seq (.seq (.reg l77r1) (.cond (.tmp 8) (.seq (.reg l77r2) .ret) .skip)) (.seq (.draw l77r3) .ret))) [.tmp 4])
theorem l77_eq:lowFn Tryz.prog 77=some l77:=by kernel_rfl
def l79r0:List AOper :=
 [oQ 2 (.alloc [.slice none 0 0,.slice none 0 0]) []]
def l79r1:List AOper :=
 [oQ 5 (.mv Z0) [],oQ 6 (.bslice 1 [.int .i64 0] [(0,.const (.int .i64 12)),(1,.const (.int .i64 20)),(2,.const (.int .i64 16)),(3,.const (.int .i64 8)),(4,.const (.int .i64 0))] 5) [],oQ 7 (.call 81 [Z5,Z6]) [0,1],oQ 8 (.call 111 [Z7]) [2,2],oQ 3 (.alloc [.slice none 0 0,.slice none 0 0]) [],nQ (.store 2 Z3 Z8) (4::3::3::uQ 5)]
def l79r2:List AOper :=
 [oQ 9 (.mv Z0) [],oQ 10 (.bslice 1 [.int .i64 0] [(0,.const (.int .i64 5)),(1,.const (.int .i64 4)),(2,.const (.int .i64 6)),(3,.const (.int .i64 3)),(4,.const (.int .i64 8)),(5,.const (.int .i64 0))] 6) [],oQ 11 (.call 81 [Z9,Z10]) [0,1],oQ 4 (.mv Z11) [2,2,0,1,2]]
def l79r3:List AOper :=
 [oQ 12 (.mv Z4) [],oQ 13 (.bin .gtr Z12 (.const (.int .i64 0))) [0]]
def l79r4a:List AOper :=
 [oQ 17 (.load true 2 Z3) [],oQ 18 (.mv Z0) [],oQ 19 (.load true 2 Z3) [],oQ 20 (.call 82 [Z18,Z19]) [1,2],oQ 21 (.call 26 [Z17,Z20]) [0,3,3],oQ 16 (.mv Z21) [4],oQ 22 (.extract Z16 0) [5],oQ 23 (.extract Z16 1) [5],nQ (.store 2 Z3 Z22) (6::4::uQ 7)]
def l79r4b:List AOper :=
 []
def l79r4:List AOper:=l79r4a++l79r4b
def l79r5:List AOper :=
 [oQ 14 (.mv Z4) [],oQ 15 (.bin .sub Z14 (.const (.int .i64 1))) [0],oQ 4 (.mv Z15) [1,0,1]]
def l79r6:List AOper :=
 [oQ 24 (.load true 2 Z3) [],nQ (.store 2 Z2 Z24) [0,0]]
def l79:AFn :=
 (AFn.mk 25 1 (.seq (.reg l79r0) (.seq (.reg l79r1) (.seq (.seq (.reg l79r2) (.block 0 (.loop (.seq (.seq (.reg l79r3) (.cond (.tmp 13) .skip (.exit 0))) (.seq (.block 1 (.draw l79r4)) (.reg l79r5)))))) (.seq (.reg l79r6) .ret)))) [.cell 2 true 2])
theorem l79_eq:lowFn Tryz.prog 79=some l79:=by kernel_rfl
def l80r0:List AOper :=
 [oQ 4 (.mv (.const (.int .i64 0))) []]
def l80r1:List AOper :=
 [oQ 7 (.mv Z0) [],oQ 8 (.mv Z0) [],oQ 9 (.nilck Z8) [1],oQ 10 (.fld 1 Z9) [2],oQ 11 (.load false 1 Z10) [3],oQ 12 (.bin .add Z11 (.const (.int .i64 1))) [4],oQ 13 (.nilck Z7) (0::uQ 6),oQ 14 (.fld 1 Z13) (6::uQ 6),nQ (.store 1 Z14 Z12) (7::5::uQ 6)]
def l80r2:List AOper :=
 [oQ 15 (.mv Z1) [],oQ 16 (.bin .lss Z15 (.const (.int .i64 1))) [0],oQ 17 (.mv Z16) [1],gQ 18 (.mv Z0) (some (17,false)) [2],gQ 19 (.nilck Z18) (some (17,false)) [3,2],gQ 20 (.fld 0 Z19) (some (17,false)) [4,2],gQ 21 (.load false 1 Z20) (some (17,false)) [5,2],gQ 22 (.len Z21) (some (17,false)) [6,2],gQ 23 (.bin .eql Z22 (.const (.int .i64 0))) (some (17,false)) [7,2],oQ 24 (.pick Z17 (.const (.bool true)) Z23) [2,8]]
def l80r3:List AOper :=
 [oQ 4 (.mv (.const (.int .i64 0))) []]
def l80r4:List AOper :=
 [oQ 25 (.mv Z0) [],oQ 26 (.nilck Z25) [0],oQ 27 (.fld 1 Z26) [1],oQ 28 (.load false 1 Z27) [2],oQ 29 (.bin .sub Z28 (.const (.int .i64 1))) [3],oQ 5 (.mv Z29) (4::uQ 5)]
def l80r5:List AOper :=
 [oQ 30 (.mv Z5) [],oQ 31 (.mv Z0) [],oQ 32 (.nilck Z31) [1],oQ 33 (.fld 0 Z32) [2],oQ 34 (.load false 1 Z33) [3],oQ 35 (.len Z34) [4],oQ 36 (.bin .lss Z30 Z35) [0,5]]
def l80r6:List AOper :=
 [oQ 37 (.mv Z0) [],oQ 38 (.nilck Z37) [0],oQ 39 (.fld 0 Z38) [1],oQ 40 (.load false 1 Z39) [2],oQ 41 (.mv Z5) [],oQ 42 (.idxA 1 Z40 Z41) [3,4],oQ 43 (.load false 1 Z42) [5],oQ 44 (.conv .i64 Z43) [6],oQ 45 (.mv Z1) [],oQ 46 (.bin .rem Z44 Z45) [7,8],oQ 4 (.mv Z46) (9::uQ 10)]
def l80r7a:List AOper :=
 [oQ 47 (.mv Z0) [],oQ 48 (.nilck Z47) [0],oQ 49 (.fld 0 Z48) [1],oQ 50 (.load false 1 Z49) [2],oQ 51 (.mv Z5) [],oQ 52 (.mv Z0) [],oQ 53 (.nilck Z52) [5],oQ 54 (.fld 0 Z53) [6],oQ 55 (.load false 1 Z54) [7],oQ 56 (.len Z55) [8],oQ 57 (.bin .rem Z51 Z56) [4,9],oQ 58 (.idxA 1 Z50 Z57) [3,10],oQ 59 (.load false 1 Z58) [11],oQ 60 (.conv .i64 Z59) [12],oQ 61 (.bin .mul Z60 (.const (.int .i64 131))) [13],oQ 62 (.mv Z0) [],oQ 63 (.nilck Z62) [15],oQ 64 (.fld 0 Z63) [16],oQ 65 (.load false 1 Z64) [17],oQ 66 (.mv Z5) [],oQ 67 (.bin .mul Z66 (.const (.int .i64 7))) [19],oQ 68 (.bin .add Z67 (.const (.int .i64 3))) [20],oQ 69 (.mv Z0) [],oQ 70 (.nilck Z69) [22],oQ 71 (.fld 0 Z70) [23],oQ 72 (.load false 1 Z71) [24],oQ 73 (.len Z72) [25],oQ 74 (.bin .rem Z68 Z73) [21,26],oQ 75 (.idxA 1 Z65 Z74) [18,27],oQ 76 (.load false 1 Z75) [28],oQ 77 (.conv .i64 Z76) [29],oQ 78 (.bin .mul Z77 (.const (.int .i64 1117))) [30],oQ 79 (.bin .add Z61 Z78) [14,31],oQ 80 (.mv Z5) [],oQ 81 (.bin .mul Z80 (.const (.int .i64 29))) [33],oQ 82 (.bin .add Z79 Z81) [32,34],oQ 83 (.mv Z5) [],oQ 84 (.mv Z0) [],oQ 85 (.nilck Z84) [37],oQ 86 (.fld 0 Z85) [38],oQ 87 (.load false 1 Z86) [39],oQ 88 (.len Z87) [40],oQ 89 (.bin .quo Z83 Z88) [36,41],oQ 90 (.bin .mul Z89 (.const (.int .i64 53))) [42]]
def l80r7b:List AOper :=
 [oQ 91 (.bin .add Z82 Z90) [35,43],oQ 6 (.mv Z91) (44::uQ 45)]
def l80r7:List AOper:=l80r7a++l80r7b
def l80r8:List AOper :=
 [oQ 92 (.mv Z6) [],oQ 93 (.mv Z6) [],oQ 94 (.bin .quo Z93 (.const (.int .i64 64))) [1],oQ 95 (.bin .xor Z92 Z94) [0,2],oQ 6 (.mv Z95) [3,0,1,2,3]]
def l80r9:List AOper :=
 [oQ 96 (.mv Z6) [],oQ 97 (.mv Z1) [],oQ 98 (.bin .rem Z96 Z97) [0,1],oQ 4 (.mv Z98) [2,0,1,2]]
def l80:AFn :=
 (AFn.mk 99 2 (.seq (.reg l80r0) (.seq (.reg l80r1) (.seq (.seq (.reg l80r2) (.cond (.tmp 24) (.seq (.reg l80r3) .ret) .skip)) (.seq (.reg l80r4) (.seq (.seq (.reg l80r5) (.cond (.tmp 36) (.seq (.reg l80r6) .ret) .skip)) (.seq (.draw l80r7) (.seq (.reg l80r8) (.seq (.reg l80r9) .ret)))))))) [.tmp 4])
theorem l80_eq:lowFn Tryz.prog 80=some l80:=by kernel_rfl
def l81r0:List AOper :=
 [oQ 4 (.mv (.const (.int .i64 0))) []]
def l81r1:List AOper :=
 [oQ 5 (.mv Z1) [],oQ 6 (.mv Z0) [],oQ 7 (.mv Z1) [],oQ 8 (.len Z7) [2],oQ 9 (.call 80 [Z6,Z8]) [1,3],oQ 10 (.idxA 1 Z5 Z9) [0,4],oQ 11 (.load false 1 Z10) [5],oQ 4 (.mv Z11) (6::4::uQ 7)]
def l81:AFn :=
 (AFn.mk 12 2 (.seq (.reg l81r0) (.seq (.reg l81r1) .ret)) [.tmp 4])
theorem l81_eq:lowFn Tryz.prog 81=some l81:=by kernel_rfl
def l82r0:List AOper :=
 [oQ 3 (.box Z1) [],oQ 4 (.alloc [.int .i64 0,.slice none 0 0]) []]
def l82r1:List AOper :=
 [oQ 8 (.mv Z0) [],oQ 9 (.fld 1 Z3) [],oQ 10 (.load false 1 Z9) [1],oQ 11 (.len Z10) [2],oQ 12 (.bin .add Z11 (.const (.int .i64 1))) [3],oQ 13 (.call 80 [Z8,Z12]) [0,4],oQ 5 (.mv Z13) (5::5::uQ 6)]
def l82r2:List AOper :=
 [oQ 14 (.load true 2 Z3) [],oQ 15 (.call 112 [Z14]) [0],oQ 6 (.mv Z15) [1,1,0,1]]
def l82r3:List AOper :=
 [oQ 16 (.mv Z6) [],oQ 17 (.len Z16) [0],oQ 18 (.bin .gtr Z17 (.const (.int .i64 0))) [1],oQ 19 (.mv Z18) [2],gQ 20 (.mv Z0) (some (19,true)) [3],gQ 21 (.call 80 [Z20,.const (.int .i64 4)]) (some (19,true)) [4,3,3],gQ 22 (.bin .gtr Z21 (.const (.int .i64 0))) (some (19,true)) [5,3],oQ 23 (.pick Z19 Z22 (.const (.bool false))) [3,6]]
def l82r4:List AOper :=
 [oQ 24 (.mv Z6) [],oQ 25 (.mv Z0) [],oQ 26 (.mv Z6) [],oQ 27 (.len Z26) [2],oQ 28 (.call 80 [Z25,Z27]) [1,3],oQ 29 (.idxA 1 Z24 Z28) [0,4],oQ 30 (.load false 1 Z29) [5],oQ 5 (.mv Z30) (6::4::uQ 7)]
def l82r5:List AOper :=
 [oQ 31 (.mv Z0) [],oQ 32 (.bslice 1 [.int .i64 0] [(0,.const (.int .i64 1)),(1,.const (.int .i64 2)),(2,.const (.int .i64 3)),(3,.const (.int .i64 4)),(4,.const (.int .i64 5)),(5,.const (.int .i64 6)),(6,.const (.int .i64 7)),(7,.const (.int .i64 0)),(8,.const (.int .i64 6)),(9,.const (.int .i64 4))] 10) [],oQ 33 (.call 81 [Z31,Z32]) [0,1],oQ 7 (.mv Z33) [2,2,0,1,2]]
def l82r6:List AOper :=
 [oQ 34 (.mv Z7) []]
def l82r7:List AOper :=
 [oQ 40 (.bin .eql Z34 (.const (.int .i64 0))) [],oQ 39 (.mv Z40) [0]]
def l82r8:List AOper :=
 [oQ 41 (.mv Z7) [],oQ 42 (.mv Z0) [],oQ 43 (.bslice 1 [.int .i64 0] [(0,.const (.int .i64 12)),(1,.const (.int .i64 20)),(2,.const (.int .i64 8)),(3,.const (.int .i64 30)),(4,.const (.int .i64 0))] 5) [],oQ 44 (.call 81 [Z42,Z43]) [1,2],oQ 45 (.bslice 1 [.int .i64 0] [(0,Z44)] 1) [3],oQ 46 (.build [.int .i64 0,.slice none 0 0] [(0,1,Z41),(1,1,Z45)]) [0,4],nQ (.store 2 Z4 Z46) (5::3::uQ 6)]
def l82r9:List AOper :=
 [oQ 48 (.bin .eql Z34 (.const (.int .i64 1))) [],oQ 47 (.mv Z48) [0]]
def l82r10:List AOper :=
 [oQ 49 (.mv Z7) [],oQ 50 (.mv Z0) [],oQ 51 (.call 80 [Z50,.const (.int .i64 6)]) [1],oQ 52 (.mv Z0) [],oQ 53 (.bslice 1 [.int .i64 0] [(0,.const (.int .i64 4)),(1,.const (.int .i64 3)),(2,.const (.int .i64 5)),(3,.const (.int .i64 2)),(4,.const (.int .i64 0))] 5) [],oQ 54 (.call 81 [Z52,Z53]) [3,4,2],oQ 55 (.mv Z0) [],oQ 56 (.bslice 1 [.int .i64 0] [(0,.const (.int .i64 1)),(1,.const (.int .i64 2)),(2,.const (.int .i64 3)),(3,.const (.int .i64 0)),(4,.const (.int .i64 (-1)))] 5) [],oQ 57 (.call 81 [Z55,Z56]) [6,7,5],oQ 58 (.bslice 1 [.int .i64 0] [(0,Z51),(1,Z54),(2,Z57)] 3) [2,5,8],oQ 59 (.build [.int .i64 0,.slice none 0 0] [(0,1,Z49),(1,1,Z58)]) [0,9],nQ (.store 2 Z4 Z59) (10::8::uQ 11)]
def l82r11:List AOper :=
 [oQ 61 (.bin .eql Z34 (.const (.int .i64 2))) [],oQ 60 (.mv Z61) [0]]
def l82r12:List AOper :=
 [oQ 62 (.mv Z7) [],oQ 63 (.mv Z5) [],oQ 64 (.mv Z0) [],oQ 65 (.call 80 [Z64,.const (.int .i64 4)]) [2],oQ 66 (.mv Z0) [],oQ 67 (.bslice 1 [.int .i64 0] [(0,.const (.int .i64 3)),(1,.const (.int .i64 4)),(2,.const (.int .i64 (-1))),(3,.const (.int .i64 2))] 4) [],oQ 68 (.call 81 [Z66,Z67]) [4,5,3],oQ 69 (.mv Z0) [],oQ 70 (.bslice 1 [.int .i64 0] [(0,.const (.int .i64 1)),(1,.const (.int .i64 2)),(2,.const (.int .i64 (-1))),(3,.const (.int .i64 1))] 4) [],oQ 71 (.call 81 [Z69,Z70]) [7,8,6],oQ 72 (.bslice 1 [.int .i64 0] [(0,Z63),(1,Z65),(2,Z68),(3,Z71)] 4) [1,3,6,9],oQ 73 (.build [.int .i64 0,.slice none 0 0] [(0,1,Z62),(1,1,Z72)]) [0,10],nQ (.store 2 Z4 Z73) (11::9::uQ 12)]
def l82r13:List AOper :=
 [oQ 75 (.bin .eql Z34 (.const (.int .i64 4))) [],oQ 74 (.mv Z75) [0]]
def l82r14:List AOper :=
 [oQ 76 (.mv Z7) [],oQ 77 (.mv Z5) [],oQ 78 (.mv Z0) [],oQ 79 (.call 80 [Z78,.const (.int .i64 100)]) [2],oQ 80 (.bslice 1 [.int .i64 0] [(0,Z77),(1,Z79)] 2) [1,3],oQ 81 (.build [.int .i64 0,.slice none 0 0] [(0,1,Z76),(1,1,Z80)]) [0,4],nQ (.store 2 Z4 Z81) (5::3::uQ 6)]
def l82r15:List AOper :=
 [oQ 83 (.bin .eql Z34 (.const (.int .i64 5))) [],oQ 82 (.mv Z83) [0]]
def l82r16:List AOper :=
 [oQ 84 (.mv Z7) [],oQ 85 (.mv Z5) [],oQ 86 (.mv Z0) [],oQ 87 (.fld 1 Z3) [],oQ 88 (.load false 1 Z87) [3],oQ 89 (.len Z88) [4],oQ 90 (.bin .add Z89 (.const (.int .i64 1))) [5],oQ 91 (.call 80 [Z86,Z90]) [2,6],oQ 92 (.bslice 1 [.int .i64 0] [(0,Z85),(1,Z91)] 2) [1,7],oQ 93 (.build [.int .i64 0,.slice none 0 0] [(0,1,Z84),(1,1,Z92)]) [0,8],nQ (.store 2 Z4 Z93) (9::7::uQ 10)]
def l82r17:List AOper :=
 [oQ 35 (.mv Z7) [],oQ 36 (.mv Z5) [],oQ 37 (.bslice 1 [.int .i64 0] [(0,Z36)] 1) [1],oQ 38 (.build [.int .i64 0,.slice none 0 0] [(0,1,Z35),(1,1,Z37)]) [0,2],nQ (.store 2 Z4 Z38) [3,0,1,2,3]]
def l82:AFn :=
 (AFn.mk 94 2 (.seq (.reg l82r0) (.seq (.reg l82r1) (.seq (.seq (.reg l82r2) (.seq (.reg l82r3) (.cond (.tmp 23) (.reg l82r4) .skip))) (.seq (.reg l82r5) (.seq (.reg l82r6) (.block 0 (.seq (.reg l82r7) (.cond (.tmp 39) (.seq (.reg l82r8) .ret) (.seq (.reg l82r9) (.cond (.tmp 47) (.seq (.reg l82r10) .ret) (.seq (.reg l82r11) (.cond (.tmp 60) (.seq (.reg l82r12) .ret) (.seq (.reg l82r13) (.cond (.tmp 74) (.seq (.reg l82r14) .ret) (.seq (.reg l82r15) (.cond (.tmp 82) (.seq (.reg l82r16) .ret) (.seq (.reg l82r17) .ret))))))))))))))))) [.cell 4 true 2])
theorem l82_eq:lowFn Tryz.prog 82=some l82:=by kernel_rfl
def l83r0:List AOper :=
 [oQ 2 (.mv (.const (.bool false))) []]
def l83r1:List AOper :=
 [oQ 3 (.mv Z0) [],oQ 4 (.bin .leq (.const (.int .i64 0)) Z3) [0],oQ 5 (.mv Z4) [1],gQ 6 (.mv Z0) (some (5,true)) [2],gQ 7 (.bin .leq Z6 (.const (.int .i64 60))) (some (5,true)) [3,2],oQ 8 (.pick Z5 Z7 (.const (.bool false))) [2,4],oQ 2 (.mv Z8) (5::2::uQ 6)]
def l83:AFn :=
 (AFn.mk 9 1 (.seq (.reg l83r0) (.seq (.reg l83r1) .ret)) [.tmp 2])
theorem l83_eq:lowFn Tryz.prog 83=some l83:=by kernel_rfl
def l84r0:List AOper :=
 [oQ 2 (.mv (.const (.bool false))) []]
def l84r1:List AOper :=
 [oQ 5 (.mv Z0) [],oQ 6 (.len Z5) [0],oQ 7 (.mv (.const (.int .i64 0))) []]
def l84r2:List AOper :=
 [oQ 8 (.bin .lss Z7 Z6) []]
def l84r3:List AOper :=
 [oQ 9 (.idxA 1 Z5 Z7) [],oQ 10 (.load false 1 Z9) [0],oQ 4 (.mv Z10) [1,0,1]]
def l84r4:List AOper :=
 [oQ 11 (.mv Z4) [],oQ 12 (.call 51 [Z11,.const (.int .i64 255)]) [0],oQ 13 (.un .not Z12) [1]]
def l84r5:List AOper :=
 [oQ 2 (.mv (.const (.bool false))) []]
def l84r6:List AOper :=
 [oQ 14 (.bin .add Z7 (.const (.int .i64 1))) [],oQ 7 (.mv Z14) [0]]
def l84r7:List AOper :=
 [oQ 2 (.mv (.const (.bool true))) []]
def l84:AFn :=
 (AFn.mk 15 1 (.seq (.reg l84r0) (.seq (.seq (.reg l84r1) (.block 0 (.loop (.seq (.reg l84r2) (.seq (.cond (.tmp 8) .skip (.exit 0)) (.seq (.block 1 (.seq (.reg l84r3) (.seq (.reg l84r4) (.cond (.tmp 13) (.seq (.reg l84r5) .ret) .skip)))) (.reg l84r6))))))) (.seq (.reg l84r7) .ret))) [.tmp 2])
theorem l84_eq:lowFn Tryz.prog 84=some l84:=by kernel_rfl
def l87r0:List AOper :=
 [oQ 6 (.mv (.const (.pointer none))) []]
def l87r1:List AOper :=
 [oQ 7 (.mv Z2) []]
def l87r2:List AOper :=
 [oQ 8 (.mv Z0) [],oQ 9 (.mv Z0) [],oQ 10 (.nilck Z9) [1],oQ 11 (.fld 0 Z10) [2],oQ 12 (.load false 1 Z11) [3],oQ 13 (.mv Z1) [],oQ 14 (.bslice 1 [.int .i64 0] [(0,Z13)] 1) [5],oQ 15 (.append 1 Z12 Z14) [4,6],oQ 16 (.nilck Z8) (0::uQ 8),oQ 17 (.fld 0 Z16) (8::uQ 8),nQ (.store 1 Z17 Z15) (9::7::7::uQ 8)]
def l87r3:List AOper :=
 [oQ 18 (.build [.slice none 0 0] []) [],oQ 19 (.box Z18) [0],oQ 6 (.mv Z19) [1,0,1]]
def l87:AFn :=
 (AFn.mk 20 3 (.seq (.reg l87r0) (.seq (.seq (.reg l87r1) (.cond (.tmp 7) (.reg l87r2) .skip)) (.seq (.reg l87r3) .ret))) [.tmp 6])
theorem l87_eq:lowFn Tryz.prog 87=some l87:=by kernel_rfl
def l88r0:List AOper :=
 [oQ 2 (.mv (.const (.bool false))) []]
def l88r1:List AOper :=
 [oQ 5 (.mv Z0) [],oQ 6 (.len Z5) [0],oQ 7 (.bin .gtr Z6 (.const (.int .i64 4))) [1]]
def l88r2:List AOper :=
 [oQ 2 (.mv (.const (.bool false))) []]
def l88r3:List AOper :=
 [oQ 8 (.mv Z0) [],oQ 9 (.len Z8) [0],oQ 10 (.mv (.const (.int .i64 0))) []]
def l88r4:List AOper :=
 [oQ 11 (.bin .lss Z10 Z9) []]
def l88r5:List AOper :=
 [oQ 12 (.idxA 1 Z8 Z10) [],oQ 13 (.load false 1 Z12) [0],oQ 4 (.mv Z13) [1,0,1]]
def l88r6:List AOper :=
 [oQ 14 (.mv Z4) [],oQ 15 (.call 51 [Z14,.const (.int .i64 60)]) [0],oQ 16 (.un .not Z15) [1]]
def l88r7:List AOper :=
 [oQ 2 (.mv (.const (.bool false))) []]
def l88r8:List AOper :=
 [oQ 17 (.bin .add Z10 (.const (.int .i64 1))) [],oQ 10 (.mv Z17) [0]]
def l88r9:List AOper :=
 [oQ 18 (.mv Z0) [],oQ 19 (.call 113 [Z18]) [0],oQ 20 (.bin .leq Z19 (.const (.int .i64 60))) [1],oQ 2 (.mv Z20) [2,1,0,1,2]]
def l88:AFn :=
 (AFn.mk 21 1 (.seq (.reg l88r0) (.seq (.seq (.reg l88r1) (.cond (.tmp 7) (.seq (.reg l88r2) .ret) .skip)) (.seq (.seq (.reg l88r3) (.block 0 (.loop (.seq (.reg l88r4) (.seq (.cond (.tmp 11) .skip (.exit 0)) (.seq (.block 1 (.seq (.reg l88r5) (.seq (.reg l88r6) (.cond (.tmp 16) (.seq (.reg l88r7) .ret) .skip)))) (.reg l88r8))))))) (.seq (.reg l88r9) .ret)))) [.tmp 2])
theorem l88_eq:lowFn Tryz.prog 88=some l88:=by kernel_rfl
def l89r0:List AOper :=
 [oQ 4 (.mv (.const (.bool false))) []]
def l89r1:List AOper :=
 [oQ 7 (.mv Z0) [],oQ 8 (.len Z7) [0],oQ 9 (.mv Z1) [],oQ 10 (.bin .neq Z8 Z9) [1,2]]
def l89r2:List AOper :=
 [oQ 4 (.mv (.const (.bool false))) []]
def l89r3:List AOper :=
 [oQ 11 (.mv Z0) [],oQ 12 (.len Z11) [0],oQ 13 (.mv (.const (.int .i64 0))) []]
def l89r4:List AOper :=
 [oQ 14 (.bin .lss Z13 Z12) []]
def l89r5:List AOper :=
 [oQ 15 (.idxA 1 Z11 Z13) [],oQ 16 (.load false 1 Z15) [0],oQ 6 (.mv Z16) [1,0,1]]
def l89r6:List AOper :=
 [oQ 17 (.mv Z6) [],oQ 18 (.call 66 [Z17,.const (.int .i64 60)]) [0],oQ 19 (.un .not Z18) [1]]
def l89r7:List AOper :=
 [oQ 4 (.mv (.const (.bool false))) []]
def l89r8:List AOper :=
 [oQ 20 (.bin .add Z13 (.const (.int .i64 1))) [],oQ 13 (.mv Z20) [0]]
def l89r9:List AOper :=
 [oQ 4 (.mv (.const (.bool true))) []]
def l89:AFn :=
 (AFn.mk 21 2 (.seq (.reg l89r0) (.seq (.seq (.reg l89r1) (.cond (.tmp 10) (.seq (.reg l89r2) .ret) .skip)) (.seq (.seq (.reg l89r3) (.block 0 (.loop (.seq (.reg l89r4) (.seq (.cond (.tmp 14) .skip (.exit 0)) (.seq (.block 1 (.seq (.reg l89r5) (.seq (.reg l89r6) (.cond (.tmp 19) (.seq (.reg l89r7) .ret) .skip)))) (.reg l89r8))))))) (.seq (.reg l89r9) .ret)))) [.tmp 4])
theorem l89_eq:lowFn Tryz.prog 89=some l89:=by kernel_rfl
def l90r0:List AOper :=
 [oQ 1 (.box Z0) [],oQ 2 (.mv (.const (.int .i64 0))) []]
def l90r1:List AOper :=
 [oQ 3 (.fld 1 Z1) [],oQ 4 (.load false 1 Z3) [0],oQ 5 (.call 113 [Z4]) [1],oQ 2 (.mv Z5) [2,2,0,1,2]]
def l90:AFn :=
 (AFn.mk 6 1 (.seq (.reg l90r0) (.seq (.reg l90r1) .ret)) [.tmp 2])
theorem l90_eq:lowFn Tryz.prog 90=some l90:=by kernel_rfl
def l92r0:List AOper :=
 [oQ 1 (.box Z0) [],oQ 2 (.mv (.const (.bool false))) []]
def l92r1:List AOper :=
 [oQ 3 (.fld 1 Z1) [],oQ 4 (.load false 1 Z3) [0],oQ 5 (.call 114 [Z4]) [1],oQ 6 (.mv Z5) [2,2],gQ 7 (.fld 2 Z1) (some (6,true)) [3],gQ 8 (.load false 1 Z7) (some (6,true)) [4,3],gQ 9 (.len Z8) (some (6,true)) [5,3],gQ 10 (.fld 1 Z1) (some (6,true)) [3],gQ 11 (.load false 1 Z10) (some (6,true)) [7,3],gQ 12 (.len Z11) (some (6,true)) [8,3],gQ 13 (.bin .eql Z9 Z12) (some (6,true)) [6,9,3],oQ 14 (.pick Z6 Z13 (.const (.bool false))) [3,10],oQ 15 (.mv Z14) [11,3],gQ 16 (.fld 2 Z1) (some (15,true)) [12],gQ 17 (.load false 1 Z16) (some (15,true)) [13,12],gQ 18 (.call 58 [Z17,.const (.int .i64 (-60)),.const (.int .i64 60)]) (some (15,true)) [14,12,12],oQ 19 (.pick Z15 Z18 (.const (.bool false))) [12,15],oQ 20 (.mv Z19) [16,15],gQ 21 (.fld 0 Z1) (some (20,true)) [17],gQ 22 (.load false 1 Z21) (some (20,true)) [18,17],gQ 23 (.call 56 [Z22,.const (.int .i64 0),.const (.int .i64 60)]) (some (20,true)) [19,17,17],oQ 24 (.pick Z20 Z23 (.const (.bool false))) [17,20],oQ 25 (.mv Z24) [21,20],gQ 26 (.fld 1 Z1) (some (25,true)) [22],gQ 27 (.load false 1 Z26) (some (25,true)) [23,22],gQ 28 (.call 115 [Z27]) (some (25,true)) [24,22,22],gQ 29 (.bin .eql Z28 (.const (.int .i64 0))) (some (25,true)) [25,22],gQ 30 (.mv Z29) (some (25,true)) [26,25,22],gQ 31 (.load true 3 Z1) (some (30,false)) [27],gQ 32 (.call 101 [Z31]) (some (30,false)) [28,27,27],gQ 33 (.call 58 [Z32,.const (.int .i64 0),.const (.int .i64 59)]) (some (30,false)) [29,29,27],gQ 34 (.pick Z30 (.const (.bool true)) Z33) (some (25,true)) [27,30,22],oQ 35 (.pick Z25 Z34 (.const (.bool false))) [22,31],oQ 2 (.mv Z35) (32::30::uQ 33)]
def l92:AFn :=
 (AFn.mk 36 1 (.seq (.reg l92r0) (.seq (.reg l92r1) .ret)) [.tmp 2])
theorem l92_eq:lowFn Tryz.prog 92=some l92:=by kernel_rfl
def l93r0:List AOper :=
 [oQ 2 (.box Z0) [],oQ 4 (.mv (.const (.bool false))) []]
def l93r1:List AOper :=
 [oQ 5 (.load true 3 Z2) [],oQ 6 (.call 101 [Z5]) [0],oQ 7 (.mv Z1) [],oQ 8 (.bin .sub Z7 (.const (.int .i64 1))) [2],oQ 9 (.call 58 [Z6,.const (.int .i64 0),Z8]) [1,3,1],oQ 4 (.mv Z9) (4::4::uQ 5)]
def l93:AFn :=
 (AFn.mk 10 2 (.seq (.reg l93r0) (.seq (.reg l93r1) .ret)) [.tmp 4])
theorem l93_eq:lowFn Tryz.prog 93=some l93:=by kernel_rfl
def l94r0:List AOper :=
 [oQ 2 (.box Z0) [],oQ 4 (.alloc [.slice none 0 0,.slice none 0 0]) [],oQ 5 (.mv (.const (.bool false))) []]
def l94r1:List AOper :=
 [oQ 8 (.load true 2 Z2) [],oQ 9 (.call 24 [Z8]) [0],oQ 10 (.un .not Z9) [1],oQ 11 (.mv Z10) [2,1],gQ 12 (.mv Z1) (some (11,false)) [3],gQ 13 (.call 56 [Z12,.const (.int .i64 0),.const (.int .i64 60)]) (some (11,false)) [4,3,3],gQ 14 (.un .not Z13) (some (11,false)) [5,3],oQ 15 (.pick Z11 (.const (.bool true)) Z14) [3,6],oQ 16 (.mv Z15) [7,5],gQ 17 (.load true 2 Z2) (some (16,false)) [8],gQ 18 (.call 112 [Z17]) (some (16,false)) [9,8,8],gQ 19 (.len Z18) (some (16,false)) [10,8],gQ 20 (.bin .gtr Z19 (.const (.int .i64 0))) (some (16,false)) [11,8],oQ 21 (.pick Z16 (.const (.bool true)) Z20) [8,12]]
def l94r2:List AOper :=
 [oQ 22 (.build [.slice none 0 0,.slice none 0 0] []) [],nQ (.store 2 Z4 Z22) [0,0],oQ 5 (.mv (.const (.bool false))) [1,0,1]]
def l94r3:List AOper :=
 [oQ 23 (.load true 2 Z2) [],oQ 24 (.call 27 [Z23]) [0],oQ 6 (.alloc [.slice none 0 0,.slice none 0 0]) [],nQ (.store 2 Z6 Z24) [2,1,1,0,1,2]]
def l94r4:List AOper :=
 [oQ 25 (.mv Z1) [],oQ 26 (.mkslice 1 [.int .i64 0] Z25 Z25) [0,0],oQ 27 (.fld 0 Z6) [0,1],nQ (.store 1 Z27 Z26) [2,1,0,1]]
def l94r5:List AOper :=
 [oQ 7 (.mv (.const (.int .i64 0))) []]
def l94r6:List AOper :=
 [oQ 28 (.mv Z7) [],oQ 29 (.mv Z1) [],oQ 30 (.bin .lss Z28 Z29) [0,1],oQ 31 (.mv Z30) [2],gQ 32 (.mv Z7) (some (31,true)) [3],gQ 33 (.fld 0 Z2) (some (31,true)) [3],gQ 34 (.load false 1 Z33) (some (31,true)) [5,3],gQ 35 (.len Z34) (some (31,true)) [6,3],gQ 36 (.bin .lss Z32 Z35) (some (31,true)) [4,7,3],oQ 37 (.pick Z31 Z36 (.const (.bool false))) [3,8]]
def l94r7a:List AOper :=
 [oQ 40 (.fld 0 Z6) [],oQ 41 (.load false 1 Z40) [0],oQ 42 (.mv Z7) [],oQ 43 (.fld 0 Z2) [],oQ 44 (.load false 1 Z43) [3],oQ 45 (.mv Z7) [],oQ 46 (.idxA 1 Z44 Z45) [4,5],oQ 47 (.load false 1 Z46) [6]]
def l94r7b:List AOper :=
 [oQ 48 (.idxA 1 Z41 Z42) (1::2::uQ 8),nQ (.store 1 Z48 Z47) (8::7::uQ 8)]
def l94r7:List AOper:=l94r7a++l94r7b
def l94r8:List AOper :=
 [oQ 38 (.mv Z7) [],oQ 39 (.bin .add Z38 (.const (.int .i64 1))) [0],oQ 7 (.mv Z39) [1,0,1]]
def l94r9:List AOper :=
 [oQ 49 (.load true 2 Z6) [],nQ (.store 2 Z4 Z49) [0,0],oQ 5 (.mv (.const (.bool true))) [1,0,1]]
def l94:AFn :=
 (AFn.mk 50 2 (.seq (.reg l94r0) (.seq (.seq (.reg l94r1) (.cond (.tmp 21) (.seq (.reg l94r2) .ret) .skip)) (.seq (.reg l94r3) (.seq (.reg l94r4) (.seq (.seq (.reg l94r5) (.block 0 (.loop (.seq (.seq (.reg l94r6) (.cond (.tmp 37) .skip (.exit 0))) (.seq (.block 1 (.draw l94r7)) (.reg l94r8)))))) (.seq (.reg l94r9) .ret)))))) [.cell 4 true 2,.tmp 5])
theorem l94_eq:lowFn Tryz.prog 94=some l94:=by kernel_rfl
def l95r0:List AOper :=
 [oQ 2 (.box Z0) [],oQ 3 (.box Z1) [],oQ 4 (.alloc [.slice none 0 0,.slice none 0 0]) [],oQ 5 (.mv (.const (.bool false))) []]
def l95r1:List AOper :=
 [oQ 6 (.load true 2 Z2) [],oQ 7 (.call 24 [Z6]) [0],oQ 8 (.un .not Z7) [1],oQ 9 (.mv Z8) [2,1],gQ 10 (.load true 3 Z3) (some (9,false)) [3],gQ 11 (.call 92 [Z10]) (some (9,false)) [4,3,3],gQ 12 (.un .not Z11) (some (9,false)) [5,3],oQ 13 (.pick Z9 (.const (.bool true)) Z12) [3,6],oQ 14 (.mv Z13) [7,5],gQ 15 (.load true 3 Z3) (some (14,false)) [8],gQ 16 (.fld 0 Z2) (some (14,false)) [8],gQ 17 (.load false 1 Z16) (some (14,false)) [10,8],gQ 18 (.len Z17) (some (14,false)) [11,8],gQ 19 (.call 93 [Z15,Z18]) (some (14,false)) [9,12,8,8],gQ 20 (.un .not Z19) (some (14,false)) [13,8],oQ 21 (.pick Z14 (.const (.bool true)) Z20) [8,14],oQ 22 (.mv Z21) [15,13],gQ 23 (.fld 1 Z2) (some (22,false)) [16],gQ 24 (.load false 1 Z23) (some (22,false)) [17,16],gQ 25 (.len Z24) (some (22,false)) [18,16],gQ 26 (.bin .eql Z25 (.const (.int .i64 8))) (some (22,false)) [19,16],oQ 27 (.pick Z22 (.const (.bool true)) Z26) [16,20]]
def l95r2:List AOper :=
 [oQ 28 (.build [.slice none 0 0,.slice none 0 0] []) [],nQ (.store 2 Z4 Z28) [0,0],oQ 5 (.mv (.const (.bool false))) [1,0,1]]
def l95r3:List AOper :=
 [oQ 29 (.load true 2 Z2) [],oQ 30 (.load true 3 Z3) [],oQ 31 (.call 116 [Z29,.const (.int .i64 (-1)),Z30]) [0,1],nQ (.store 2 Z4 Z31) [2,2,0,1,2],oQ 5 (.mv (.const (.bool true))) [3,0,1,2,3]]
def l95:AFn :=
 (AFn.mk 32 2 (.seq (.reg l95r0) (.seq (.seq (.reg l95r1) (.cond (.tmp 27) (.seq (.reg l95r2) .ret) .skip)) (.seq (.reg l95r3) .ret))) [.cell 4 true 2,.tmp 5])
theorem l95_eq:lowFn Tryz.prog 95=some l95:=by kernel_rfl
def l96r0:List AOper :=
 [oQ 4 (.box Z0) [],oQ 7 (.box Z3) [],oQ 8 (.alloc [.slice none 0 0,.slice none 0 0]) [],oQ 9 (.mv (.const (.bool false))) []]
def l96r1:List AOper :=
 [oQ 12 (.load true 2 Z4) [],oQ 13 (.call 24 [Z12]) [0],oQ 14 (.un .not Z13) [1],oQ 15 (.mv Z14) [2,1],gQ 16 (.load true 2 Z4) (some (15,false)) [3],gQ 17 (.mv Z1) (some (15,false)) [3],gQ 18 (.call 100 [Z16,Z17]) (some (15,false)) [4,5,3,3],gQ 19 (.un .not Z18) (some (15,false)) [6,3],oQ 20 (.pick Z15 (.const (.bool true)) Z19) [3,7],oQ 21 (.mv Z20) [8,6],gQ 22 (.fld 1 Z4) (some (21,false)) [9],gQ 23 (.load false 1 Z22) (some (21,false)) [10,9],gQ 24 (.len Z23) (some (21,false)) [11,9],gQ 25 (.bin .eql Z24 (.const (.int .i64 8))) (some (21,false)) [12,9],oQ 26 (.pick Z21 (.const (.bool true)) Z25) [9,13]]
def l96r2:List AOper :=
 [oQ 27 (.build [.slice none 0 0,.slice none 0 0] []) [],nQ (.store 2 Z8 Z27) [0,0],oQ 9 (.mv (.const (.bool false))) [1,0,1]]
def l96r3a:List AOper :=
 [oQ 29 (.fld 1 Z4) [],oQ 30 (.load false 1 Z29) [0],oQ 31 (.mv Z1) [],oQ 32 (.idxA 5 Z30 Z31) [1,2],oQ 33 (.fld 1 Z32) [3],oQ 34 (.load true 3 Z33) [4],oQ 35 (.mv Z2) [],oQ 36 (.load true 5 Z7) [],oQ 37 (.call 117 [Z34,Z35,Z36]) [5,6,7],oQ 28 (.mv Z37) [8],oQ 38 (.extract Z28 0) [9],oQ 39 (.extract Z28 1) [9],oQ 10 (.alloc [.int .i64 0,.slice none 0 0,.slice none 0 0]) [],nQ (.store 3 Z10 Z38) [12,10,8,0,1,2,3,4,5,6,7,8,9,10,12]]
def l96r3b:List AOper :=
 [oQ 11 (.mv Z39) (11::13::uQ 14)]
def l96r3:List AOper:=l96r3a++l96r3b
def l96r4:List AOper :=
 [oQ 40 (.mv Z11) [],oQ 41 (.un .not Z40) [0]]
def l96r5:List AOper :=
 [oQ 42 (.build [.slice none 0 0,.slice none 0 0] []) [],nQ (.store 2 Z8 Z42) [0,0],oQ 9 (.mv (.const (.bool false))) [1,0,1]]
def l96r6:List AOper :=
 [oQ 43 (.load true 2 Z4) [],oQ 44 (.mv Z1) [],oQ 45 (.load true 3 Z10) [],oQ 46 (.call 116 [Z43,Z44,Z45]) [0,1,2],nQ (.store 2 Z8 Z46) [3,3,0,1,2,3],oQ 9 (.mv (.const (.bool true))) (4::uQ 5)]
def l96:AFn :=
 (AFn.mk 47 4 (.seq (.reg l96r0) (.seq (.seq (.reg l96r1) (.cond (.tmp 26) (.seq (.reg l96r2) .ret) .skip)) (.seq (.draw l96r3) (.seq (.seq (.reg l96r4) (.cond (.tmp 41) (.seq (.reg l96r5) .ret) .skip)) (.seq (.reg l96r6) .ret))))) [.cell 8 true 2,.tmp 9])
theorem l96_eq:lowFn Tryz.prog 96=some l96:=by kernel_rfl
def l97r0:List AOper :=
 [oQ 3 (.box Z0) [],oQ 6 (.alloc [.slice none 0 0,.slice none 0 0]) [],oQ 7 (.mv (.const (.bool false))) []]
def l97r1:List AOper :=
 [oQ 9 (.load true 2 Z3) [],oQ 10 (.call 24 [Z9]) [0],oQ 11 (.un .not Z10) [1],oQ 12 (.mv Z11) [2,1],gQ 13 (.load true 2 Z3) (some (12,false)) [3],gQ 14 (.mv Z1) (some (12,false)) [3],gQ 15 (.call 100 [Z13,Z14]) (some (12,false)) [4,5,3,3],gQ 16 (.un .not Z15) (some (12,false)) [6,3],oQ 17 (.pick Z12 (.const (.bool true)) Z16) [3,7],oQ 18 (.mv Z17) [8,6],gQ 19 (.mv Z2) (some (18,false)) [9],gQ 20 (.call 56 [Z19,.const (.int .i64 0),.const (.int .i64 255)]) (some (18,false)) [10,9,9],gQ 21 (.un .not Z20) (some (18,false)) [11,9],oQ 22 (.pick Z18 (.const (.bool true)) Z21) [9,12]]
def l97r2:List AOper :=
 [oQ 23 (.build [.slice none 0 0,.slice none 0 0] []) [],nQ (.store 2 Z6 Z23) [0,0],oQ 7 (.mv (.const (.bool false))) [1,0,1]]
def l97r3:List AOper :=
 [oQ 24 (.load true 2 Z3) [],oQ 25 (.call 27 [Z24]) [0],oQ 8 (.alloc [.slice none 0 0,.slice none 0 0]) [],nQ (.store 2 Z8 Z25) [2,1,1,0,1,2]]
def l97r4a:List AOper :=
 [oQ 27 (.fld 0 Z3) [],oQ 28 (.load false 1 Z27) [0],oQ 29 (.fld 1 Z3) [],oQ 30 (.load false 1 Z29) [2],oQ 31 (.mv Z1) [],oQ 32 (.idxA 5 Z30 Z31) [3,4],oQ 33 (.fld 1 Z32) [5],oQ 34 (.load true 3 Z33) [6],oQ 35 (.mv Z2) [],oQ 36 (.call 118 [Z28,Z34,Z35]) [1,7,8],oQ 26 (.mv Z36) [9],oQ 37 (.extract Z26 0) [10],oQ 38 (.extract Z26 1) [10],oQ 39 (.fld 0 Z8) (uQ 12),nQ (.store 1 Z39 Z37) (13::11::9::uQ 12)]
def l97r4b:List AOper :=
 []
def l97r4:List AOper:=l97r4a++l97r4b
def l97r5:List AOper :=
 [oQ 40 (.load true 2 Z8) [],nQ (.store 2 Z6 Z40) [0,0],oQ 7 (.mv (.const (.bool true))) [1,0,1]]
def l97:AFn :=
 (AFn.mk 41 3 (.seq (.reg l97r0) (.seq (.seq (.reg l97r1) (.cond (.tmp 22) (.seq (.reg l97r2) .ret) .skip)) (.seq (.reg l97r3) (.seq (.draw l97r4) (.seq (.reg l97r5) .ret))))) [.cell 6 true 2,.tmp 7])
theorem l97_eq:lowFn Tryz.prog 97=some l97:=by kernel_rfl
def l98r0:List AOper :=
 [oQ 3 (.box Z0) [],oQ 6 (.alloc [.slice none 0 0,.slice none 0 0]) [],oQ 7 (.mv (.const (.bool false))) []]
def l98r1:List AOper :=
 [oQ 11 (.load true 2 Z3) [],oQ 12 (.call 24 [Z11]) [0],oQ 13 (.un .not Z12) [1],oQ 14 (.mv Z13) [2,1],gQ 15 (.load true 2 Z3) (some (14,false)) [3],gQ 16 (.mv Z1) (some (14,false)) [3],gQ 17 (.call 100 [Z15,Z16]) (some (14,false)) [4,5,3,3],gQ 18 (.un .not Z17) (some (14,false)) [6,3],oQ 19 (.pick Z14 (.const (.bool true)) Z18) [3,7],oQ 20 (.mv Z19) [8,6],gQ 21 (.load true 2 Z3) (some (20,false)) [9],gQ 22 (.mv Z2) (some (20,false)) [9],gQ 23 (.call 100 [Z21,Z22]) (some (20,false)) [10,11,9,9],gQ 24 (.un .not Z23) (some (20,false)) [12,9],oQ 25 (.pick Z20 (.const (.bool true)) Z24) [9,13]]
def l98r2:List AOper :=
 [oQ 26 (.build [.slice none 0 0,.slice none 0 0] []) [],nQ (.store 2 Z6 Z26) [0,0],oQ 7 (.mv (.const (.bool false))) [1,0,1]]
def l98r3a:List AOper :=
 [oQ 28 (.fld 0 Z3) [],oQ 29 (.load false 1 Z28) [0],oQ 30 (.fld 1 Z3) [],oQ 31 (.load false 1 Z30) [2],oQ 32 (.mv Z1) [],oQ 33 (.idxA 5 Z31 Z32) [3,4],oQ 34 (.fld 1 Z33) [5],oQ 35 (.load true 3 Z34) [6],oQ 36 (.fld 1 Z3) [],oQ 37 (.load false 1 Z36) [8],oQ 38 (.mv Z2) [],oQ 39 (.idxA 5 Z37 Z38) [9,10],oQ 40 (.fld 1 Z39) [11],oQ 41 (.load true 3 Z40) [12],oQ 42 (.call 119 [Z29,Z35,Z41]) [1,7,13],oQ 27 (.mv Z42) [14],oQ 43 (.extract Z27 0) [15],oQ 44 (.extract Z27 1) [15],oQ 8 (.mv Z43) (16::14::uQ 17)]
def l98r3b:List AOper :=
 [oQ 9 (.mv Z44) (17::18::uQ 19)]
def l98r3:List AOper:=l98r3a++l98r3b
def l98r4:List AOper :=
 [oQ 45 (.mv Z9) [],oQ 46 (.un .not Z45) [0]]
def l98r5:List AOper :=
 [oQ 47 (.build [.slice none 0 0,.slice none 0 0] []) [],nQ (.store 2 Z6 Z47) [0,0],oQ 7 (.mv (.const (.bool false))) [1,0,1]]
def l98r6:List AOper :=
 [oQ 48 (.load true 2 Z3) [],oQ 49 (.call 27 [Z48]) [0],oQ 10 (.alloc [.slice none 0 0,.slice none 0 0]) [],nQ (.store 2 Z10 Z49) [2,1,1,0,1,2]]
def l98r7:List AOper :=
 [oQ 50 (.mv Z8) [],oQ 51 (.fld 0 Z10) [0],nQ (.store 1 Z51 Z50) [1,0,0]]
def l98r8:List AOper :=
 [oQ 52 (.load true 2 Z10) [],nQ (.store 2 Z6 Z52) [0,0],oQ 7 (.mv (.const (.bool true))) [1,0,1]]
def l98:AFn :=
 (AFn.mk 53 3 (.seq (.reg l98r0) (.seq (.seq (.reg l98r1) (.cond (.tmp 25) (.seq (.reg l98r2) .ret) .skip)) (.seq (.draw l98r3) (.seq (.seq (.reg l98r4) (.cond (.tmp 46) (.seq (.reg l98r5) .ret) .skip)) (.seq (.reg l98r6) (.seq (.reg l98r7) (.seq (.reg l98r8) .ret))))))) [.cell 6 true 2,.tmp 7])
theorem l98_eq:lowFn Tryz.prog 98=some l98:=by kernel_rfl
def l99r0:List AOper :=
 [oQ 2 (.box Z0) [],oQ 4 (.alloc [.slice none 0 0,.slice none 0 0]) [],oQ 5 (.mv (.const (.bool false))) []]
def l99r1:List AOper :=
 [oQ 7 (.load true 2 Z2) [],oQ 8 (.call 24 [Z7]) [0],oQ 9 (.un .not Z8) [1],oQ 10 (.mv Z9) [2,1],gQ 11 (.load true 2 Z2) (some (10,false)) [3],gQ 12 (.mv Z1) (some (10,false)) [3],gQ 13 (.call 100 [Z11,Z12]) (some (10,false)) [4,5,3,3],gQ 14 (.un .not Z13) (some (10,false)) [6,3],oQ 15 (.pick Z10 (.const (.bool true)) Z14) [3,7],oQ 16 (.mv Z15) [8,6],gQ 17 (.load true 2 Z2) (some (16,false)) [9],gQ 18 (.mv Z1) (some (16,false)) [9],gQ 19 (.call 120 [Z17,Z18]) (some (16,false)) [10,11,9,9],gQ 20 (.len Z19) (some (16,false)) [12,9],gQ 21 (.bin .gtr Z20 (.const (.int .i64 0))) (some (16,false)) [13,9],oQ 22 (.pick Z16 (.const (.bool true)) Z21) [9,14]]
def l99r2:List AOper :=
 [oQ 23 (.build [.slice none 0 0,.slice none 0 0] []) [],nQ (.store 2 Z4 Z23) [0,0],oQ 5 (.mv (.const (.bool false))) [1,0,1]]
def l99r3:List AOper :=
 [oQ 24 (.load true 2 Z2) [],oQ 25 (.call 27 [Z24]) [0],oQ 6 (.alloc [.slice none 0 0,.slice none 0 0]) [],nQ (.store 2 Z6 Z25) [2,1,1,0,1,2]]
def l99r4:List AOper :=
 [oQ 26 (.fld 1 Z6) [],oQ 27 (.load false 1 Z26) [0],oQ 28 (.mv Z1) [],oQ 29 (.idxA 5 Z27 Z28) [1,2,0,1,2],oQ 30 (.fld 4 Z29) [3,0,1,2],nQ (.store 1 Z30 (.const (.bool false))) [4,0,1,2]]
def l99r5:List AOper :=
 [oQ 31 (.load true 2 Z6) [],nQ (.store 2 Z4 Z31) [0,0],oQ 5 (.mv (.const (.bool true))) [1,0,1]]
def l99:AFn :=
 (AFn.mk 32 2 (.seq (.reg l99r0) (.seq (.seq (.reg l99r1) (.cond (.tmp 22) (.seq (.reg l99r2) .ret) .skip)) (.seq (.reg l99r3) (.seq (.reg l99r4) (.seq (.reg l99r5) .ret))))) [.cell 4 true 2,.tmp 5])
theorem l99_eq:lowFn Tryz.prog 99=some l99:=by kernel_rfl
def l100r0:List AOper :=
 [oQ 2 (.box Z0) [],oQ 4 (.mv (.const (.bool false))) []]
def l100r1:List AOper :=
 [oQ 5 (.mv Z1) [],oQ 6 (.fld 1 Z2) [],oQ 7 (.load false 1 Z6) [1],oQ 8 (.len Z7) [2],oQ 9 (.bin .sub Z8 (.const (.int .i64 1))) [3],oQ 10 (.call 56 [Z5,.const (.int .i64 0),Z9]) [0,4],oQ 11 (.mv Z10) [5,5],gQ 12 (.fld 1 Z2) (some (11,true)) [6],gQ 13 (.load false 1 Z12) (some (11,true)) [7,6],gQ 14 (.mv Z1) (some (11,true)) [6],gQ 15 (.idxA 5 Z13 Z14) (some (11,true)) [8,9,6],gQ 16 (.fld 4 Z15) (some (11,true)) [10,6],gQ 17 (.load false 1 Z16) (some (11,true)) [11,6],oQ 18 (.pick Z11 Z17 (.const (.bool false))) [6,12],oQ 4 (.mv Z18) (13::6::uQ 14)]
def l100:AFn :=
 (AFn.mk 19 2 (.seq (.reg l100r0) (.seq (.reg l100r1) .ret)) [.tmp 4])
theorem l100_eq:lowFn Tryz.prog 100=some l100:=by kernel_rfl
def l101r0:List AOper :=
 [oQ 1 (.box Z0) [],oQ 2 (.mv (.const (.slice none 0 0))) []]
def l101r1:List AOper :=
 [oQ 5 (.bslice 1 [.int .i64 0] [] 0) [],oQ 3 (.mv Z5) [0,0]]
def l101r2:List AOper :=
 [oQ 4 (.mv (.const (.int .i64 0))) []]
def l101r3:List AOper :=
 [oQ 6 (.mv Z4) [],oQ 7 (.fld 1 Z1) [],oQ 8 (.load false 1 Z7) [1],oQ 9 (.call 115 [Z8]) [2],oQ 10 (.bin .lss Z6 Z9) [0,3]]
def l101r4a:List AOper :=
 [oQ 13 (.mv Z3) [],oQ 14 (.load true 3 Z1) [],oQ 15 (.fld 1 Z1) [],oQ 16 (.load false 1 Z15) [2],oQ 17 (.mv Z4) [],oQ 18 (.call 122 [Z16,Z17]) [3,4],oQ 19 (.call 121 [Z14,Z18]) [1,5,5],oQ 20 (.bslice 1 [.int .i64 0] [(0,Z19)] 1) [6]]
def l101r4b:List AOper :=
 [oQ 21 (.append 1 Z13 Z20) [0,7,6],oQ 3 (.mv Z21) (8::8::uQ 9)]
def l101r4:List AOper:=l101r4a++l101r4b
def l101r5:List AOper :=
 [oQ 11 (.mv Z4) [],oQ 12 (.bin .add Z11 (.const (.int .i64 1))) [0],oQ 4 (.mv Z12) [1,0,1]]
def l101r6:List AOper :=
 [oQ 22 (.mv Z3) [],oQ 2 (.mv Z22) [0,0]]
def l101:AFn :=
 (AFn.mk 23 1 (.seq (.reg l101r0) (.seq (.reg l101r1) (.seq (.seq (.reg l101r2) (.block 0 (.loop (.seq (.seq (.reg l101r3) (.cond (.tmp 10) .skip (.exit 0))) (.seq (.block 1 (.draw l101r4)) (.reg l101r5)))))) (.seq (.reg l101r6) .ret)))) [.tmp 2])
theorem l101_eq:lowFn Tryz.prog 101=some l101:=by kernel_rfl
def l103r0:List AOper :=
 [oQ 3 (.box Z0) [],oQ 6 (.alloc [.slice none 0 0,.slice none 0 0]) [],oQ 7 (.mv (.const (.bool false))) []]
def l103r1:List AOper :=
 [oQ 9 (.mv Z2) [],oQ 10 (.un .not Z9) [0]]
def l103r2:List AOper :=
 [oQ 11 (.build [.slice none 0 0,.slice none 0 0] []) [],nQ (.store 2 Z6 Z11) [0,0],oQ 7 (.mv (.const (.bool false))) [1,0,1]]
def l103r3:List AOper :=
 [oQ 12 (.load true 2 Z3) [],oQ 13 (.call 32 [Z12]) [0],oQ 8 (.alloc [.slice none 0 0,.slice none 0 0]) [],nQ (.store 2 Z8 Z13) [2,1,1,0,1,2]]
def l103r4:List AOper :=
 [oQ 14 (.mv Z1) [],oQ 15 (.fld 0 Z8) [0],nQ (.store 1 Z15 Z14) [1,0,0]]
def l103r5:List AOper :=
 [oQ 16 (.load true 2 Z8) [],nQ (.store 2 Z6 Z16) [0,0],oQ 7 (.mv (.const (.bool true))) [1,0,1]]
def l103:AFn :=
 (AFn.mk 17 3 (.seq (.reg l103r0) (.seq (.seq (.reg l103r1) (.cond (.tmp 10) (.seq (.reg l103r2) .ret) .skip)) (.seq (.reg l103r3) (.seq (.reg l103r4) (.seq (.reg l103r5) .ret))))) [.cell 6 true 2,.tmp 7])
theorem l103_eq:lowFn Tryz.prog 103=some l103:=by kernel_rfl
def l104r0:List AOper :=
 [oQ 3 (.box Z0) [],oQ 5 (.box Z2) [],oQ 6 (.alloc [.slice none 0 0,.slice none 0 0]) [],oQ 7 (.mv (.const (.bool false))) []]
def l104r1:List AOper :=
 [oQ 9 (.fld 1 Z3) [],oQ 10 (.load false 1 Z9) [0],oQ 11 (.len Z10) [1],oQ 12 (.bin .eql Z11 (.const (.int .i64 8))) [2]]
def l104r2:List AOper :=
 [oQ 13 (.build [.slice none 0 0,.slice none 0 0] []) [],nQ (.store 2 Z6 Z13) [0,0],oQ 7 (.mv (.const (.bool false))) [1,0,1]]
def l104r3:List AOper :=
 [oQ 14 (.load true 2 Z3) [],oQ 15 (.call 32 [Z14]) [0],oQ 8 (.alloc [.slice none 0 0,.slice none 0 0]) [],nQ (.store 2 Z8 Z15) [2,1,1,0,1,2]]
def l104r4a:List AOper :=
 [oQ 16 (.fld 1 Z8) [],oQ 17 (.load false 1 Z16) [0],oQ 18 (.mv Z1) [],oQ 19 (.load true 3 Z5) [],oQ 20 (.call 75 [Z19]) [3],oQ 21 (.build [.int .i64 0,.int .i64 0,.slice none 0 0,.slice none 0 0,.bool false] [(0,1,Z18),(1,3,Z20),(4,1,.const (.bool true))]) [2,4],oQ 22 (.bslice 5 [.int .i64 0,.int .i64 0,.slice none 0 0,.slice none 0 0,.bool false] [(0,Z21)] 1) [5]]
def l104r4b:List AOper :=
 [oQ 23 (.append 5 Z17 Z22) [1,6,4],oQ 24 (.fld 1 Z8) (uQ 8),nQ (.store 1 Z24 Z23) (8::7::7::uQ 8)]
def l104r4:List AOper:=l104r4a++l104r4b
def l104r5:List AOper :=
 [oQ 25 (.load true 2 Z8) [],nQ (.store 2 Z6 Z25) [0,0],oQ 7 (.mv (.const (.bool true))) [1,0,1]]
def l104:AFn :=
 (AFn.mk 26 3 (.seq (.reg l104r0) (.seq (.seq (.reg l104r1) (.cond (.tmp 12) (.seq (.reg l104r2) .ret) .skip)) (.seq (.reg l104r3) (.seq (.draw l104r4) (.seq (.reg l104r5) .ret))))) [.cell 6 true 2,.tmp 7])
theorem l104_eq:lowFn Tryz.prog 104=some l104:=by kernel_rfl
def l105r0:List AOper :=
 [oQ 3 (.box Z0) [],oQ 5 (.box Z2) [],oQ 6 (.alloc [.int .i64 0,.slice none 0 0,.slice none 0 0]) [],oQ 7 (.mv (.const (.bool false))) []]
def l105r1:List AOper :=
 [oQ 10 (.load true 3 Z3) [],oQ 11 (.mv Z1) [],oQ 12 (.call 123 [Z10,Z11]) [0,1],oQ 13 (.un .not Z12) [2],oQ 14 (.mv Z13) [3,2],gQ 15 (.load true 5 Z5) (some (14,false)) [4],gQ 16 (.call 124 [Z15]) (some (14,false)) [5,4,4],gQ 17 (.un .not Z16) (some (14,false)) [6,4],oQ 18 (.pick Z14 (.const (.bool true)) Z17) [4,7]]
def l105r2:List AOper :=
 [oQ 19 (.build [.int .i64 0,.slice none 0 0,.slice none 0 0] []) [],nQ (.store 3 Z6 Z19) [0,0],oQ 7 (.mv (.const (.bool false))) [1,0,1]]
def l105r3a:List AOper :=
 [oQ 20 (.load true 5 Z5) [],oQ 21 (.fld 1 Z3) [],oQ 22 (.load false 1 Z21) [1],oQ 23 (.mv Z1) [],oQ 24 (.idxA 1 Z22 Z23) [2,3],oQ 25 (.load false 1 Z24) [4],oQ 26 (.call 125 [Z20,Z25]) [0,5],oQ 8 (.alloc [.int .i64 0,.int .i64 0,.int .i64 0]) []]
def l105r3b:List AOper :=
 [nQ (.store 3 Z8 Z26) (7::6::6::uQ 8)]
def l105r3:List AOper:=l105r3a++l105r3b
def l105r4:List AOper :=
 [oQ 27 (.load true 3 Z3) [],oQ 28 (.call 126 [Z27]) [0],oQ 9 (.alloc [.int .i64 0,.slice none 0 0,.slice none 0 0,.int .i64 0,.int .i64 0,.int .i64 0,.int .i64 0,.slice none 0 0]) [],nQ (.store 8 Z9 Z28) [2,1,1,0,1,2]]
def l105r5:List AOper :=
 [oQ 29 (.mv Z1) [],oQ 30 (.fld 0 Z8) [],oQ 31 (.load false 1 Z30) [1],oQ 32 (.fld 3 Z9) [],oQ 33 (.idxP 1 4 Z32 Z29) [3,0,0,1,2],nQ (.store 1 Z33 Z31) [4,2,0,1,2]]
def l105r6a:List AOper :=
 [oQ 34 (.fld 7 Z9) [],oQ 35 (.load false 1 Z34) [0],oQ 36 (.mv Z1) [],oQ 37 (.load true 3 Z8) [],oQ 38 (.call 128 [Z37]) [3],oQ 39 (.fld 2 Z3) [],oQ 40 (.load false 1 Z39) [5],oQ 41 (.mv Z1) [],oQ 42 (.idxA 1 Z40 Z41) [6,7],oQ 43 (.load false 1 Z42) [8],oQ 44 (.fld 2 Z8) [],oQ 45 (.load false 1 Z44) [10],oQ 46 (.bin .mul Z43 Z45) [9,11],oQ 47 (.call 127 [Z38,Z46]) [4,12,4]]
def l105r6b:List AOper :=
 [oQ 48 (.idxA 2 Z35 Z36) (1::2::uQ 14),nQ (.store 2 Z48 Z47) (14::13::13::uQ 14)]
def l105r6:List AOper:=l105r6a++l105r6b
def l105r7:List AOper :=
 [oQ 49 (.load true 8 Z9) [],oQ 50 (.call 129 [Z49]) [0],nQ (.store 3 Z6 Z50) [1,1,0,1],oQ 7 (.mv (.const (.bool true))) [2,0,1,2]]
def l105:AFn :=
 (AFn.mk 51 3 (.seq (.reg l105r0) (.seq (.seq (.reg l105r1) (.cond (.tmp 18) (.seq (.reg l105r2) .ret) .skip)) (.seq (.draw l105r3) (.seq (.reg l105r4) (.seq (.reg l105r5) (.seq (.draw l105r6) (.seq (.reg l105r7) .ret))))))) [.cell 6 true 3,.tmp 7])
theorem l105_eq:lowFn Tryz.prog 105=some l105:=by kernel_rfl
def l106r0:List AOper :=
 [oQ 4 (.box Z1) [],oQ 6 (.mv (.const (.slice none 0 0))) [],oQ 7 (.mv (.const (.bool false))) [1]]
def l106r1:List AOper :=
 [oQ 8 (.mv Z0) [],oQ 9 (.load true 3 Z4) [],oQ 10 (.call 130 [Z8,Z9]) [0,1],oQ 11 (.un .not Z10) [2],oQ 12 (.mv Z11) [3,2],gQ 13 (.mv Z2) (some (12,false)) [4],gQ 14 (.bslice 1 [.int .i64 0] [(0,Z13)] 1) (some (12,false)) [5,4],gQ 15 (.call 84 [Z14]) (some (12,false)) [6,4,4],gQ 16 (.un .not Z15) (some (12,false)) [7,4],oQ 17 (.pick Z12 (.const (.bool true)) Z16) [4,8]]
def l106r2:List AOper :=
 [oQ 6 (.mv (.const (.slice none 0 0))) [],oQ 7 (.mv (.const (.bool false))) [0,0]]
def l106r3a:List AOper :=
 [oQ 18 (.mv Z0) [],oQ 19 (.load true 3 Z4) [],oQ 20 (.mv Z2) [],oQ 21 (.bslice 1 [.int .i64 0] [(0,Z20)] 1) [2],oQ 22 (.load true 3 Z4) [],oQ 23 (.call 90 [Z22]) [4],oQ 24 (.call 132 [Z21,Z23]) [3,5,5]]
def l106r3b:List AOper :=
 [oQ 25 (.call 131 [Z18,Z19,Z24]) [0,1,6,6],oQ 6 (.mv Z25) (7::7::uQ 8),oQ 7 (.mv (.const (.bool true))) (8::uQ 9)]
def l106r3:List AOper:=l106r3a++l106r3b
def l106:AFn :=
 (AFn.mk 26 3 (.seq (.reg l106r0) (.seq (.seq (.reg l106r1) (.cond (.tmp 17) (.seq (.reg l106r2) .ret) .skip)) (.seq (.draw l106r3) .ret))) [.tmp 6,.tmp 7])
theorem l106_eq:lowFn Tryz.prog 106=some l106:=by kernel_rfl
def l107r0:List AOper :=
 [oQ 4 (.box Z1) [],oQ 5 (.box Z2) [],oQ 6 (.mv (.const (.slice none 0 0))) [],oQ 7 (.mv (.const (.bool false))) [2]]
def l107r1:List AOper :=
 [oQ 8 (.mv Z0) [],oQ 9 (.load true 3 Z4) [],oQ 10 (.load true 3 Z5) [],oQ 11 (.call 133 [Z8,Z9,Z10]) [0,1,2],oQ 12 (.un .not Z11) [3]]
def l107r2:List AOper :=
 [oQ 6 (.mv (.const (.slice none 0 0))) [],oQ 7 (.mv (.const (.bool false))) [0,0]]
def l107r3a:List AOper :=
 [oQ 13 (.mv Z0) [],oQ 14 (.load true 3 Z4) [],oQ 15 (.mv Z0) [],oQ 16 (.load true 3 Z5) [],oQ 17 (.call 134 [Z15,Z16]) [2,3]]
def l107r3b:List AOper :=
 [oQ 18 (.call 131 [Z13,Z14,Z17]) [0,1,4,4],oQ 6 (.mv Z18) (5::5::uQ 6),oQ 7 (.mv (.const (.bool true))) (6::uQ 7)]
def l107r3:List AOper:=l107r3a++l107r3b
def l107:AFn :=
 (AFn.mk 19 3 (.seq (.reg l107r0) (.seq (.seq (.reg l107r1) (.cond (.tmp 12) (.seq (.reg l107r2) .ret) .skip)) (.seq (.draw l107r3) .ret))) [.tmp 6,.tmp 7])
theorem l107_eq:lowFn Tryz.prog 107=some l107:=by kernel_rfl
def l109r0:List AOper :=
 [oQ 3 (.box Z1) [],oQ 4 (.mv (.const (.slice none 0 0))) []]
def l109r1:List AOper :=
 [oQ 5 (.mv Z0) [],oQ 6 (.load true 3 Z3) [],oQ 7 (.call 130 [Z5,Z6]) [0,1],oQ 8 (.un .not Z7) [2]]
def l109r2:List AOper :=
 [oQ 4 (.mv (.const (.slice none 0 0))) []]
def l109r3:List AOper :=
 [oQ 9 (.mv Z0) [],oQ 10 (.load true 3 Z3) [],oQ 11 (.call 134 [Z9,Z10]) [0,1],oQ 4 (.mv Z11) [2,2,0,1,2]]
def l109:AFn :=
 (AFn.mk 12 2 (.seq (.reg l109r0) (.seq (.seq (.reg l109r1) (.cond (.tmp 8) (.seq (.reg l109r2) .ret) .skip)) (.seq (.reg l109r3) .ret))) [.tmp 4])
theorem l109_eq:lowFn Tryz.prog 109=some l109:=by kernel_rfl
def l111r0:List AOper :=
 [oQ 2 (.alloc [.slice none 0 0,.slice none 0 0]) []]
def l111r1:List AOper :=
 [oQ 3 (.mv Z0) [],oQ 4 (.call 56 [Z3,.const (.int .i64 0),.const (.int .i64 60)]) [0],oQ 5 (.un .not Z4) [1]]
def l111r2:List AOper :=
 [oQ 6 (.build [.slice none 0 0,.slice none 0 0] []) [],nQ (.store 2 Z2 Z6) [0,0]]
def l111r3:List AOper :=
 [oQ 7 (.mv Z0) [],oQ 8 (.mkslice 1 [.int .i64 0] Z7 Z7) [0,0],oQ 9 (.build [.slice none 0 0,.slice none 0 0] [(0,1,Z8)]) [1],nQ (.store 2 Z2 Z9) [2,0,1,2]]
def l111:AFn :=
 (AFn.mk 10 1 (.seq (.reg l111r0) (.seq (.seq (.reg l111r1) (.cond (.tmp 5) (.seq (.reg l111r2) .ret) .skip)) (.seq (.reg l111r3) .ret))) [.cell 2 true 2])
theorem l111_eq:lowFn Tryz.prog 111=some l111:=by kernel_rfl
def l112r0:List AOper :=
 [oQ 1 (.box Z0) [],oQ 2 (.mv (.const (.slice none 0 0))) []]
def l112r1:List AOper :=
 [oQ 5 (.load true 2 Z1) [],oQ 6 (.call 24 [Z5]) [0],oQ 7 (.un .not Z6) [1]]
def l112r2:List AOper :=
 [oQ 2 (.mv (.const (.slice none 0 0))) []]
def l112r3:List AOper :=
 [oQ 8 (.bslice 1 [.int .i64 0] [] 0) [],oQ 3 (.mv Z8) [0,0]]
def l112r4:List AOper :=
 [oQ 4 (.mv (.const (.int .i64 0))) []]
def l112r5:List AOper :=
 [oQ 9 (.mv Z4) [],oQ 10 (.fld 1 Z1) [],oQ 11 (.load false 1 Z10) [1],oQ 12 (.len Z11) [2],oQ 13 (.bin .lss Z9 Z12) [0,3]]
def l112r6:List AOper :=
 [oQ 16 (.fld 1 Z1) [],oQ 17 (.load false 1 Z16) [0],oQ 18 (.mv Z4) [],oQ 19 (.idxA 5 Z17 Z18) [1,2],oQ 20 (.fld 4 Z19) [3],oQ 21 (.load false 1 Z20) [4]]
def l112r7:List AOper :=
 [oQ 22 (.mv Z3) [],oQ 23 (.mv Z4) [],oQ 24 (.bslice 1 [.int .i64 0] [(0,Z23)] 1) [1],oQ 25 (.append 1 Z22 Z24) [0,2],oQ 3 (.mv Z25) [3,3,0,1,2,3]]
def l112r8:List AOper :=
 [oQ 14 (.mv Z4) [],oQ 15 (.bin .add Z14 (.const (.int .i64 1))) [0],oQ 4 (.mv Z15) [1,0,1]]
def l112r9:List AOper :=
 [oQ 26 (.mv Z3) [],oQ 2 (.mv Z26) [0,0]]
def l112:AFn :=
 (AFn.mk 27 1 (.seq (.reg l112r0) (.seq (.seq (.reg l112r1) (.cond (.tmp 7) (.seq (.reg l112r2) .ret) .skip)) (.seq (.reg l112r3) (.seq (.seq (.reg l112r4) (.block 0 (.loop (.seq (.seq (.reg l112r5) (.cond (.tmp 13) .skip (.exit 0))) (.seq (.block 1 (.seq (.reg l112r6) (.cond (.tmp 21) (.reg l112r7) .skip))) (.reg l112r8)))))) (.seq (.reg l112r9) .ret))))) [.tmp 2])
theorem l112_eq:lowFn Tryz.prog 112=some l112:=by kernel_rfl
def l113r0:List AOper :=
 [oQ 2 (.mv (.const (.int .i64 0))) []]
def l113r1:List AOper :=
 [oQ 3 (.mv (.const (.int .i64 1))) []]
def l113r2:List AOper :=
 [oQ 6 (.mv Z0) [],oQ 7 (.len Z6) [0],oQ 8 (.mv (.const (.int .i64 0))) []]
def l113r3:List AOper :=
 [oQ 9 (.bin .lss Z8 Z7) []]
def l113r4:List AOper :=
 [oQ 10 (.idxA 1 Z6 Z8) [],oQ 11 (.load false 1 Z10) [0],oQ 5 (.mv Z11) [1,0,1]]
def l113r5:List AOper :=
 [oQ 12 (.mv Z3) [],oQ 13 (.mv Z5) [],oQ 14 (.bin .mul Z12 Z13) [0,1],oQ 3 (.mv Z14) [2,0,1,2]]
def l113r6:List AOper :=
 [oQ 15 (.bin .add Z8 (.const (.int .i64 1))) [],oQ 8 (.mv Z15) [0]]
def l113r7:List AOper :=
 [oQ 16 (.mv Z3) [],oQ 2 (.mv Z16) [0,0]]
def l113:AFn :=
 (AFn.mk 17 1 (.seq (.reg l113r0) (.seq (.reg l113r1) (.seq (.seq (.reg l113r2) (.block 0 (.loop (.seq (.reg l113r3) (.seq (.cond (.tmp 9) .skip (.exit 0)) (.seq (.block 1 (.seq (.reg l113r4) (.reg l113r5))) (.reg l113r6))))))) (.seq (.reg l113r7) .ret)))) [.tmp 2])
theorem l113_eq:lowFn Tryz.prog 113=some l113:=by kernel_rfl
def l114r0:List AOper :=
 [oQ 2 (.mv (.const (.bool false))) []]
def l114r1:List AOper :=
 [oQ 3 (.mv Z0) [],oQ 4 (.len Z3) [0],oQ 5 (.bin .leq Z4 (.const (.int .i64 4))) [1],oQ 6 (.mv Z5) [2],gQ 7 (.mv Z0) (some (6,true)) [3],gQ 8 (.call 58 [Z7,.const (.int .i64 0),.const (.int .i64 60)]) (some (6,true)) [4,3,3],oQ 9 (.pick Z6 Z8 (.const (.bool false))) [3,5],oQ 10 (.mv Z9) [6,5],gQ 11 (.mv Z0) (some (10,true)) [7],gQ 12 (.call 115 [Z11]) (some (10,true)) [8,7,7],gQ 13 (.bin .leq Z12 (.const (.int .i64 60))) (some (10,true)) [9,7],oQ 14 (.pick Z10 Z13 (.const (.bool false))) [7,10],oQ 2 (.mv Z14) (11::9::uQ 12)]
def l114:AFn :=
 (AFn.mk 15 1 (.seq (.reg l114r0) (.seq (.reg l114r1) .ret)) [.tmp 2])
theorem l114_eq:lowFn Tryz.prog 114=some l114:=by kernel_rfl
def l115r0:List AOper :=
 [oQ 2 (.mv (.const (.int .i64 0))) []]
def l115r1:List AOper :=
 [oQ 3 (.mv (.const (.int .i64 1))) []]
def l115r2:List AOper :=
 [oQ 4 (.mv (.const (.int .i64 0))) []]
def l115r3:List AOper :=
 [oQ 5 (.mv Z4) [],oQ 6 (.mv Z0) [],oQ 7 (.len Z6) [1],oQ 8 (.bin .lss Z5 Z7) [0,2]]
def l115r4:List AOper :=
 [oQ 11 (.mv Z3) [],oQ 12 (.mv Z0) [],oQ 13 (.mv Z4) [],oQ 14 (.idxA 1 Z12 Z13) [1,2],oQ 15 (.load false 1 Z14) [3],oQ 16 (.bin .mul Z11 Z15) [0,4],oQ 3 (.mv Z16) (5::uQ 6)]
def l115r5:List AOper :=
 [oQ 9 (.mv Z4) [],oQ 10 (.bin .add Z9 (.const (.int .i64 1))) [0],oQ 4 (.mv Z10) [1,0,1]]
def l115r6:List AOper :=
 [oQ 17 (.mv Z3) [],oQ 2 (.mv Z17) [0,0]]
def l115:AFn :=
 (AFn.mk 18 1 (.seq (.reg l115r0) (.seq (.reg l115r1) (.seq (.seq (.reg l115r2) (.block 0 (.loop (.seq (.seq (.reg l115r3) (.cond (.tmp 8) .skip (.exit 0))) (.seq (.block 1 (.reg l115r4)) (.reg l115r5)))))) (.seq (.reg l115r6) .ret)))) [.tmp 2])
theorem l115_eq:lowFn Tryz.prog 115=some l115:=by kernel_rfl
def l116r0:List AOper :=
 [oQ 3 (.box Z0) [],oQ 5 (.box Z2) [],oQ 6 (.alloc [.slice none 0 0,.slice none 0 0]) []]
def l116r1:List AOper :=
 [oQ 8 (.load true 2 Z3) [],oQ 9 (.call 27 [Z8]) [0],oQ 7 (.alloc [.slice none 0 0,.slice none 0 0]) [],nQ (.store 2 Z7 Z9) [2,1,1,0,1,2]]
def l116r2a:List AOper :=
 [oQ 10 (.fld 1 Z7) [],oQ 11 (.load false 1 Z10) [0],oQ 12 (.mv Z1) [],oQ 13 (.load true 3 Z5) [],oQ 14 (.call 64 [Z13]) [3],oQ 15 (.build [.int .i64 0,.int .i64 0,.slice none 0 0,.slice none 0 0,.bool false] [(0,1,Z12),(1,3,Z14),(4,1,.const (.bool true))]) [2,4],oQ 16 (.bslice 5 [.int .i64 0,.int .i64 0,.slice none 0 0,.slice none 0 0,.bool false] [(0,Z15)] 1) [5]]
def l116r2b:List AOper :=
 [oQ 17 (.append 5 Z11 Z16) [1,6,4],oQ 18 (.fld 1 Z7) (uQ 8),nQ (.store 1 Z18 Z17) (8::7::7::uQ 8)]
def l116r2:List AOper:=l116r2a++l116r2b
def l116r3:List AOper :=
 [oQ 19 (.load true 2 Z7) [],nQ (.store 2 Z6 Z19) [0,0]]
def l116:AFn :=
 (AFn.mk 20 3 (.seq (.reg l116r0) (.seq (.reg l116r1) (.seq (.draw l116r2) (.seq (.reg l116r3) .ret)))) [.cell 6 true 2])
theorem l116_eq:lowFn Tryz.prog 116=some l116:=by kernel_rfl
def l117r0:List AOper :=
 [oQ 3 (.box Z0) [],oQ 5 (.box Z2) [],oQ 6 (.alloc [.int .i64 0,.slice none 0 0,.slice none 0 0]) [],oQ 7 (.mv (.const (.bool false))) []]
def l117r1:List AOper :=
 [oQ 8 (.load true 3 Z3) [],oQ 9 (.call 92 [Z8]) [0],oQ 10 (.un .not Z9) [1],oQ 11 (.mv Z10) [2,1],gQ 12 (.load true 3 Z3) (some (11,false)) [3],gQ 13 (.mv Z1) (some (11,false)) [3],gQ 14 (.call 136 [Z12,Z13]) (some (11,false)) [4,5,3,3],gQ 15 (.un .not Z14) (some (11,false)) [6,3],oQ 16 (.pick Z11 (.const (.bool true)) Z15) [3,7],oQ 17 (.mv Z16) [8,6],gQ 18 (.load true 5 Z5) (some (17,false)) [9],gQ 19 (.call 137 [Z18]) (some (17,false)) [10,9,9],gQ 20 (.un .not Z19) (some (17,false)) [11,9],oQ 21 (.pick Z17 (.const (.bool true)) Z20) [9,12]]
def l117r2:List AOper :=
 [oQ 22 (.build [.int .i64 0,.slice none 0 0,.slice none 0 0] []) [],nQ (.store 3 Z6 Z22) [0,0],oQ 7 (.mv (.const (.bool false))) [1,0,1]]
def l117r3:List AOper :=
 [oQ 23 (.load true 3 Z3) [],oQ 24 (.mv Z1) [],oQ 25 (.load true 5 Z5) [],oQ 26 (.call 139 [Z23,Z24,Z25]) [0,1,2],oQ 27 (.call 138 [Z26]) [3,3],oQ 28 (.extract Z27 0) [4],oQ 29 (.extract Z27 1) [4],nQ (.store 3 Z6 Z28) (5::4::uQ 7),oQ 7 (.mv Z29) (6::7::uQ 8)]
def l117:AFn :=
 (AFn.mk 30 3 (.seq (.reg l117r0) (.seq (.seq (.reg l117r1) (.cond (.tmp 21) (.seq (.reg l117r2) .ret) .skip)) (.seq (.reg l117r3) .ret))) [.cell 6 true 3,.tmp 7])
theorem l117_eq:lowFn Tryz.prog 117=some l117:=by kernel_rfl
def l118r0:List AOper :=
 [oQ 4 (.box Z1) [],oQ 6 (.mv (.const (.slice none 0 0))) [],oQ 7 (.mv (.const (.bool false))) [1]]
def l118r1:List AOper :=
 [oQ 11 (.mv Z0) [],oQ 12 (.load true 3 Z4) [],oQ 13 (.call 140 [Z11,Z12]) [0,1],oQ 14 (.un .not Z13) [2],oQ 15 (.mv Z14) [3,2],gQ 16 (.mv Z2) (some (15,false)) [4],gQ 17 (.call 56 [Z16,.const (.int .i64 0),.const (.int .i64 255)]) (some (15,false)) [5,4,4],gQ 18 (.un .not Z17) (some (15,false)) [6,4],oQ 19 (.pick Z15 (.const (.bool true)) Z18) [4,7]]
def l118r2:List AOper :=
 [oQ 6 (.mv (.const (.slice none 0 0))) [],oQ 7 (.mv (.const (.bool false))) [0,0]]
def l118r3:List AOper :=
 [oQ 20 (.mv Z0) [],oQ 21 (.call 63 [Z20]) [0],oQ 8 (.mv Z21) [1,1,0,1]]
def l118r4:List AOper :=
 [oQ 22 (.load true 3 Z4) [],oQ 23 (.call 101 [Z22]) [0],oQ 9 (.mv Z23) [1,1,0,1]]
def l118r5:List AOper :=
 [oQ 10 (.mv (.const (.int .i64 0))) []]
def l118r6:List AOper :=
 [oQ 24 (.mv Z10) [],oQ 25 (.mv Z9) [],oQ 26 (.len Z25) [1],oQ 27 (.bin .lss Z24 Z26) [0,2]]
def l118r7:List AOper :=
 [oQ 30 (.mv Z8) [],oQ 31 (.mv Z9) [],oQ 32 (.mv Z10) [],oQ 33 (.idxA 1 Z31 Z32) [1,2],oQ 34 (.load false 1 Z33) [3],oQ 35 (.mv Z2) [],oQ 36 (.idxA 1 Z30 Z34) (0::4::uQ 6),nQ (.store 1 Z36 Z35) (6::5::uQ 6)]
def l118r8:List AOper :=
 [oQ 28 (.mv Z10) [],oQ 29 (.bin .add Z28 (.const (.int .i64 1))) [0],oQ 10 (.mv Z29) [1,0,1]]
def l118r9:List AOper :=
 [oQ 37 (.mv Z8) [],oQ 6 (.mv Z37) [0,0],oQ 7 (.mv (.const (.bool true))) [1,0,1]]
def l118:AFn :=
 (AFn.mk 38 3 (.seq (.reg l118r0) (.seq (.seq (.reg l118r1) (.cond (.tmp 19) (.seq (.reg l118r2) .ret) .skip)) (.seq (.reg l118r3) (.seq (.reg l118r4) (.seq (.seq (.reg l118r5) (.block 0 (.loop (.seq (.seq (.reg l118r6) (.cond (.tmp 27) .skip (.exit 0))) (.seq (.block 1 (.reg l118r7)) (.reg l118r8)))))) (.seq (.reg l118r9) .ret)))))) [.tmp 6,.tmp 7])
theorem l118_eq:lowFn Tryz.prog 118=some l118:=by kernel_rfl
def l119r0:List AOper :=
 [oQ 4 (.box Z1) [],oQ 5 (.box Z2) [],oQ 6 (.mv (.const (.slice none 0 0))) [],oQ 7 (.mv (.const (.bool false))) [2]]
def l119r1:List AOper :=
 [oQ 8 (.mv Z0) [],oQ 9 (.load true 3 Z4) [],oQ 10 (.load true 3 Z5) [],oQ 11 (.call 141 [Z8,Z9,Z10]) [0,1,2],oQ 12 (.un .not Z11) [3]]
def l119r2:List AOper :=
 [oQ 6 (.mv (.const (.slice none 0 0))) [],oQ 7 (.mv (.const (.bool false))) [0,0]]
def l119r3a:List AOper :=
 [oQ 13 (.mv Z0) [],oQ 14 (.load true 3 Z4) [],oQ 15 (.mv Z0) [],oQ 16 (.load true 3 Z5) [],oQ 17 (.call 61 [Z15,Z16]) [2,3]]
def l119r3b:List AOper :=
 [oQ 18 (.call 142 [Z13,Z14,Z17]) [0,1,4,4],oQ 6 (.mv Z18) (5::5::uQ 6),oQ 7 (.mv (.const (.bool true))) (6::uQ 7)]
def l119r3:List AOper:=l119r3a++l119r3b
def l119:AFn :=
 (AFn.mk 19 3 (.seq (.reg l119r0) (.seq (.seq (.reg l119r1) (.cond (.tmp 12) (.seq (.reg l119r2) .ret) .skip)) (.seq (.draw l119r3) .ret))) [.tmp 6,.tmp 7])
theorem l119_eq:lowFn Tryz.prog 119=some l119:=by kernel_rfl
def l120r0:List AOper :=
 [oQ 2 (.box Z0) [],oQ 4 (.mv (.const (.slice none 0 0))) []]
def l120r1:List AOper :=
 [oQ 7 (.bslice 1 [.int .i64 0] [] 0) [],oQ 5 (.mv Z7) [0,0]]
def l120r2:List AOper :=
 [oQ 6 (.mv (.const (.int .i64 0))) []]
def l120r3:List AOper :=
 [oQ 8 (.mv Z6) [],oQ 9 (.fld 1 Z2) [],oQ 10 (.load false 1 Z9) [1],oQ 11 (.len Z10) [2],oQ 12 (.bin .lss Z8 Z11) [0,3]]
def l120r4:List AOper :=
 [oQ 15 (.fld 1 Z2) [],oQ 16 (.load false 1 Z15) [0],oQ 17 (.mv Z6) [],oQ 18 (.idxA 5 Z16 Z17) [1,2],oQ 19 (.fld 4 Z18) [3],oQ 20 (.load false 1 Z19) [4],oQ 21 (.mv Z20) [5],gQ 22 (.fld 1 Z2) (some (21,true)) [6],gQ 23 (.load false 1 Z22) (some (21,true)) [7,6],gQ 24 (.mv Z6) (some (21,true)) [6],gQ 25 (.idxA 5 Z23 Z24) (some (21,true)) [8,9,6],gQ 26 (.fld 0 Z25) (some (21,true)) [10,6],gQ 27 (.load false 1 Z26) (some (21,true)) [11,6],gQ 28 (.mv Z1) (some (21,true)) [6],gQ 29 (.bin .eql Z27 Z28) (some (21,true)) [12,13,6],oQ 30 (.pick Z21 Z29 (.const (.bool false))) [6,14]]
def l120r5:List AOper :=
 [oQ 31 (.mv Z5) [],oQ 32 (.mv Z6) [],oQ 33 (.bslice 1 [.int .i64 0] [(0,Z32)] 1) [1],oQ 34 (.append 1 Z31 Z33) [0,2],oQ 5 (.mv Z34) [3,3,0,1,2,3]]
def l120r6:List AOper :=
 [oQ 13 (.mv Z6) [],oQ 14 (.bin .add Z13 (.const (.int .i64 1))) [0],oQ 6 (.mv Z14) [1,0,1]]
def l120r7:List AOper :=
 [oQ 35 (.mv Z5) [],oQ 4 (.mv Z35) [0,0]]
def l120:AFn :=
 (AFn.mk 36 2 (.seq (.reg l120r0) (.seq (.reg l120r1) (.seq (.seq (.reg l120r2) (.block 0 (.loop (.seq (.seq (.reg l120r3) (.cond (.tmp 12) .skip (.exit 0))) (.seq (.block 1 (.seq (.reg l120r4) (.cond (.tmp 30) (.reg l120r5) .skip))) (.reg l120r6)))))) (.seq (.reg l120r7) .ret)))) [.tmp 4])
theorem l120_eq:lowFn Tryz.prog 120=some l120:=by kernel_rfl
def l121r0:List AOper :=
 [oQ 2 (.box Z0) [],oQ 4 (.mv (.const (.int .i64 0))) []]
def l121r1:List AOper :=
 [oQ 7 (.fld 0 Z2) [],oQ 8 (.load false 1 Z7) [0],oQ 5 (.mv Z8) [1,0,1]]
def l121r2:List AOper :=
 [oQ 6 (.mv (.const (.int .i64 0))) []]
def l121r3:List AOper :=
 [oQ 9 (.mv Z6) [],oQ 10 (.mv Z1) [],oQ 11 (.len Z10) [1],oQ 12 (.bin .lss Z9 Z11) [0,2]]
def l121r4a:List AOper :=
 [oQ 15 (.mv Z5) [],oQ 16 (.mv Z1) [],oQ 17 (.mv Z6) [],oQ 18 (.idxA 1 Z16 Z17) [1,2],oQ 19 (.load false 1 Z18) [3],oQ 20 (.fld 2 Z2) [],oQ 21 (.load false 1 Z20) [5],oQ 22 (.mv Z6) [],oQ 23 (.idxA 1 Z21 Z22) [6,7],oQ 24 (.load false 1 Z23) [8],oQ 25 (.bin .mul Z19 Z24) [4,9]]
def l121r4b:List AOper :=
 [oQ 26 (.bin .add Z15 Z25) [0,10],oQ 5 (.mv Z26) (11::uQ 12)]
def l121r4:List AOper:=l121r4a++l121r4b
def l121r5:List AOper :=
 [oQ 13 (.mv Z6) [],oQ 14 (.bin .add Z13 (.const (.int .i64 1))) [0],oQ 6 (.mv Z14) [1,0,1]]
def l121r6:List AOper :=
 [oQ 27 (.mv Z5) [],oQ 4 (.mv Z27) [0,0]]
def l121:AFn :=
 (AFn.mk 28 2 (.seq (.reg l121r0) (.seq (.reg l121r1) (.seq (.seq (.reg l121r2) (.block 0 (.loop (.seq (.seq (.reg l121r3) (.cond (.tmp 12) .skip (.exit 0))) (.seq (.block 1 (.draw l121r4)) (.reg l121r5)))))) (.seq (.reg l121r6) .ret)))) [.tmp 4])
theorem l121_eq:lowFn Tryz.prog 121=some l121:=by kernel_rfl
def l122r0:List AOper :=
 [oQ 4 (.mv (.const (.slice none 0 0))) []]
def l122r1:List AOper :=
 [oQ 7 (.mv Z0) [],oQ 8 (.len Z7) [0],oQ 9 (.mkslice 1 [.int .i64 0] Z8 Z8) [1,1],oQ 5 (.mv Z9) [2,0,1,2]]
def l122r2:List AOper :=
 [oQ 10 (.mv Z0) [],oQ 11 (.len Z10) [0],oQ 12 (.bin .sub Z11 (.const (.int .i64 1))) [1],oQ 6 (.mv Z12) [2,0,1,2]]
def l122r3:List AOper :=
 [oQ 13 (.mv Z6) [],oQ 14 (.bin .geq Z13 (.const (.int .i64 0))) [0]]
def l122r4:List AOper :=
 [oQ 17 (.mv Z5) [],oQ 18 (.mv Z6) [],oQ 19 (.mv Z1) [],oQ 20 (.mv Z0) [],oQ 21 (.mv Z6) [],oQ 22 (.idxA 1 Z20 Z21) [3,4],oQ 23 (.load false 1 Z22) [5],oQ 24 (.bin .rem Z19 Z23) [2,6],oQ 25 (.idxA 1 Z17 Z18) (0::1::uQ 8),nQ (.store 1 Z25 Z24) (8::7::uQ 8)]
def l122r5:List AOper :=
 [oQ 26 (.mv Z1) [],oQ 27 (.mv Z0) [],oQ 28 (.mv Z6) [],oQ 29 (.idxA 1 Z27 Z28) [1,2],oQ 30 (.load false 1 Z29) [3],oQ 31 (.bin .quo Z26 Z30) [0,4],oQ 1 (.mv Z31) (5::uQ 6)]
def l122r6:List AOper :=
 [oQ 15 (.mv Z6) [],oQ 16 (.bin .sub Z15 (.const (.int .i64 1))) [0],oQ 6 (.mv Z16) [1,0,1]]
def l122r7:List AOper :=
 [oQ 32 (.mv Z5) [],oQ 4 (.mv Z32) [0,0]]
def l122:AFn :=
 (AFn.mk 33 2 (.seq (.reg l122r0) (.seq (.reg l122r1) (.seq (.seq (.reg l122r2) (.block 0 (.loop (.seq (.seq (.reg l122r3) (.cond (.tmp 14) .skip (.exit 0))) (.seq (.block 1 (.seq (.reg l122r4) (.reg l122r5))) (.reg l122r6)))))) (.seq (.reg l122r7) .ret)))) [.tmp 4])
theorem l122_eq:lowFn Tryz.prog 122=some l122:=by kernel_rfl
def l123r0:List AOper :=
 [oQ 2 (.box Z0) [],oQ 4 (.mv (.const (.bool false))) []]
def l123r1:List AOper :=
 [oQ 5 (.load true 3 Z2) [],oQ 6 (.call 50 [Z5]) [0],oQ 7 (.mv Z6) [1,1],gQ 8 (.mv Z1) (some (7,true)) [2],gQ 9 (.fld 1 Z2) (some (7,true)) [2],gQ 10 (.load false 1 Z9) (some (7,true)) [4,2],gQ 11 (.len Z10) (some (7,true)) [5,2],gQ 12 (.bin .sub Z11 (.const (.int .i64 1))) (some (7,true)) [6,2],gQ 13 (.call 51 [Z8,Z12]) (some (7,true)) [3,7,2,2],oQ 14 (.pick Z7 Z13 (.const (.bool false))) [2,8],oQ 4 (.mv Z14) (9::8::uQ 10)]
def l123:AFn :=
 (AFn.mk 15 2 (.seq (.reg l123r0) (.seq (.reg l123r1) .ret)) [.tmp 4])
theorem l123_eq:lowFn Tryz.prog 123=some l123:=by kernel_rfl
def l124r0:List AOper :=
 [oQ 1 (.box Z0) [],oQ 2 (.mv (.const (.bool false))) []]
def l124r1:List AOper :=
 [oQ 3 (.fld 0 Z1) [],oQ 4 (.load false 1 Z3) [0],oQ 5 (.fld 3 Z1) [],oQ 6 (.load false 1 Z5) [2],oQ 7 (.call 143 [Z4,Z6]) [1,3],oQ 8 (.mv Z7) [4,4],gQ 9 (.fld 1 Z1) (some (8,true)) [5],gQ 10 (.load false 1 Z9) (some (8,true)) [6,5],gQ 11 (.fld 4 Z1) (some (8,true)) [5],gQ 12 (.load false 1 Z11) (some (8,true)) [8,5],gQ 13 (.call 143 [Z10,Z12]) (some (8,true)) [7,9,5,5],oQ 14 (.pick Z8 Z13 (.const (.bool false))) [5,10],oQ 15 (.mv Z14) [11,10],gQ 16 (.fld 2 Z1) (some (15,true)) [12],gQ 17 (.load false 1 Z16) (some (15,true)) [13,12],gQ 18 (.call 144 [Z17]) (some (15,true)) [14,12,12],oQ 19 (.pick Z15 Z18 (.const (.bool false))) [12,15],oQ 2 (.mv Z19) (16::15::uQ 17)]
def l124:AFn :=
 (AFn.mk 20 1 (.seq (.reg l124r0) (.seq (.reg l124r1) .ret)) [.tmp 2])
theorem l124_eq:lowFn Tryz.prog 124=some l124:=by kernel_rfl
def l125r0:List AOper :=
 [oQ 2 (.box Z0) [],oQ 4 (.alloc [.int .i64 0,.int .i64 0,.int .i64 0]) []]
def l125r1:List AOper :=
 [oQ 8 (.mv Z1) [],oQ 5 (.mv (.const (.int .i64 0))) [],oQ 6 (.mv Z8) [0,1,0,1]]
def l125r2:List AOper :=
 [oQ 9 (.mv Z5) [],oQ 10 (.mv Z6) [],oQ 11 (.fld 2 Z2) [],oQ 12 (.load false 1 Z11) [2],oQ 13 (.build [.int .i64 0,.int .i64 0,.int .i64 0] [(0,1,Z9),(1,1,Z10),(2,1,Z12)]) [0,1,3],oQ 7 (.alloc [.int .i64 0,.int .i64 0,.int .i64 0]) [],nQ (.store 3 Z7 Z13) (5::4::uQ 6)]
def l125r3:List AOper :=
 [oQ 14 (.fld 2 Z2) [],oQ 15 (.load false 1 Z14) [0],oQ 16 (.bin .lss Z15 (.const (.int .i64 0))) [1]]
def l125r4:List AOper :=
 [oQ 17 (.mv Z1) [],oQ 18 (.bin .sub Z17 (.const (.int .i64 1))) [0],oQ 5 (.mv (.const (.int .i64 (-1)))) [],oQ 6 (.mv Z18) [1,2,0,1,2]]
def l125r5:List AOper :=
 [oQ 19 (.mv Z6) [],oQ 20 (.mv Z5) [],oQ 21 (.fld 0 Z7) [0],nQ (.store 1 Z21 Z19) [2,0,0],oQ 22 (.fld 1 Z7) [0,1,2,3],nQ (.store 1 Z22 Z20) [4,1,3,0,1,2,3]]
def l125r6:List AOper :=
 [oQ 23 (.fld 3 Z2) [],oQ 24 (.load false 1 Z23) [0]]
def l125r7:List AOper :=
 [oQ 25 (.fld 0 Z2) [],oQ 26 (.load false 1 Z25) [0],oQ 27 (.mv Z1) [],oQ 28 (.mv Z5) [],oQ 29 (.mv Z6) [],oQ 30 (.call 145 [Z26,Z27,Z28,Z29]) [1,2,3,4],oQ 31 (.fld 0 Z7) (uQ 6),nQ (.store 1 Z31 Z30) (6::5::5::uQ 6)]
def l125r8:List AOper :=
 [oQ 32 (.fld 4 Z2) [],oQ 33 (.load false 1 Z32) [0]]
def l125r9:List AOper :=
 [oQ 34 (.fld 1 Z2) [],oQ 35 (.load false 1 Z34) [0],oQ 36 (.mv Z1) [],oQ 37 (.mv Z5) [],oQ 38 (.mv Z6) [],oQ 39 (.call 145 [Z35,Z36,Z37,Z38]) [1,2,3,4],oQ 40 (.fld 1 Z7) (uQ 6),nQ (.store 1 Z40 Z39) (6::5::5::uQ 6)]
def l125r10:List AOper :=
 [oQ 41 (.load true 3 Z7) [],nQ (.store 3 Z4 Z41) [0,0]]
def l125:AFn :=
 (AFn.mk 42 2 (.seq (.reg l125r0) (.seq (.reg l125r1) (.seq (.reg l125r2) (.seq (.seq (.reg l125r3) (.cond (.tmp 16) (.seq (.reg l125r4) (.reg l125r5)) .skip)) (.seq (.seq (.reg l125r6) (.cond (.tmp 24) (.reg l125r7) .skip)) (.seq (.seq (.reg l125r8) (.cond (.tmp 33) (.reg l125r9) .skip)) (.seq (.reg l125r10) .ret))))))) [.cell 4 true 3])
theorem l125_eq:lowFn Tryz.prog 125=some l125:=by kernel_rfl
def l126r0:List AOper :=
 [oQ 1 (.box Z0) [],oQ 2 (.alloc [.int .i64 0,.slice none 0 0,.slice none 0 0,.int .i64 0,.int .i64 0,.int .i64 0,.int .i64 0,.slice none 0 0]) []]
def l126r1:List AOper :=
 [oQ 6 (.load true 3 Z1) [],oQ 7 (.build [.int .i64 0,.slice none 0 0,.slice none 0 0,.int .i64 0,.int .i64 0,.int .i64 0,.int .i64 0,.slice none 0 0] [(0,3,Z6)]) [0],oQ 3 (.alloc [.int .i64 0,.slice none 0 0,.slice none 0 0,.int .i64 0,.int .i64 0,.int .i64 0,.int .i64 0,.slice none 0 0]) [],nQ (.store 8 Z3 Z7) [2,1,0,1,2]]
def l126r2:List AOper :=
 [oQ 8 (.fld 1 Z1) [],oQ 9 (.load false 1 Z8) [0],oQ 10 (.len Z9) [1],oQ 11 (.mv (.const (.int .i64 0))) []]
def l126r3:List AOper :=
 [oQ 12 (.bin .lss Z11 Z10) []]
def l126r4:List AOper :=
 [oQ 13 (.mv Z11) [],oQ 14 (.idxA 1 Z9 Z11) [],oQ 15 (.load false 1 Z14) [1],oQ 4 (.mv Z13) [0,0,1,2],oQ 5 (.mv Z15) [2,3,0,1,2,3]]
def l126r5a:List AOper :=
 [oQ 16 (.fld 7 Z3) [],oQ 17 (.load false 1 Z16) [0],oQ 18 (.mv Z5) [],oQ 19 (.fld 2 Z1) [],oQ 20 (.load false 1 Z19) [3],oQ 21 (.mv Z4) [],oQ 22 (.idxA 1 Z20 Z21) [4,5],oQ 23 (.load false 1 Z22) [6],oQ 24 (.build [.int .i64 0,.int .i64 0] [(0,1,Z18),(1,1,Z23)]) [2,7],oQ 25 (.bslice 2 [.int .i64 0,.int .i64 0] [(0,Z24)] 1) [8]]
def l126r5b:List AOper :=
 [oQ 26 (.append 2 Z17 Z25) [1,9],oQ 27 (.fld 7 Z3) (uQ 11),nQ (.store 1 Z27 Z26) (11::10::10::uQ 11)]
def l126r5:List AOper:=l126r5a++l126r5b
def l126r6:List AOper :=
 [oQ 28 (.bin .add Z11 (.const (.int .i64 1))) [],oQ 11 (.mv Z28) [0]]
def l126r7:List AOper :=
 [oQ 29 (.load true 8 Z3) [],nQ (.store 8 Z2 Z29) [0,0]]
def l126:AFn :=
 (AFn.mk 30 1 (.seq (.reg l126r0) (.seq (.reg l126r1) (.seq (.seq (.reg l126r2) (.block 0 (.loop (.seq (.reg l126r3) (.seq (.cond (.tmp 12) .skip (.exit 0)) (.seq (.block 1 (.seq (.reg l126r4) (.draw l126r5))) (.reg l126r6))))))) (.seq (.reg l126r7) .ret)))) [.cell 2 true 8])
theorem l126_eq:lowFn Tryz.prog 126=some l126:=by kernel_rfl
def l127r0:List AOper :=
 [oQ 4 (.alloc [.int .i64 0,.int .i64 0]) []]
def l127r1:List AOper :=
 [oQ 5 (.mv Z0) [],oQ 6 (.bin .lss Z5 (.const (.int .i64 2))) [0]]
def l127r2:List AOper :=
 [oQ 7 (.mv Z0) [],oQ 8 (.build [.int .i64 0,.int .i64 0] [(0,1,Z7)]) [0],nQ (.store 2 Z4 Z8) [1,0,1]]
def l127r3:List AOper :=
 [oQ 9 (.mv Z0) [],oQ 10 (.mv Z1) [],oQ 11 (.build [.int .i64 0,.int .i64 0] [(0,1,Z9),(1,1,Z10)]) [0,1],nQ (.store 2 Z4 Z11) [2,0,1,2]]
def l127:AFn :=
 (AFn.mk 12 2 (.seq (.reg l127r0) (.seq (.seq (.reg l127r1) (.cond (.tmp 6) (.seq (.reg l127r2) .ret) .skip)) (.seq (.reg l127r3) .ret))) [.cell 4 true 2])
theorem l127_eq:lowFn Tryz.prog 127=some l127:=by kernel_rfl
def l128r0:List AOper :=
 [oQ 1 (.box Z0) [],oQ 2 (.mv (.const (.int .i64 0))) []]
def l128r1a:List AOper :=
 [oQ 5 (.fld 1 Z1) [],oQ 6 (.load false 1 Z5) [0],oQ 7 (.fld 0 Z1) [],oQ 8 (.load false 1 Z7) [2],oQ 9 (.bin .sub Z6 Z8) [1,3],oQ 10 (.fld 2 Z1) [],oQ 11 (.load false 1 Z10) [5],oQ 3 (.mv Z9) (4::uQ 5)]
def l128r1b:List AOper :=
 [oQ 4 (.mv Z11) (6::7::uQ 8)]
def l128r1:List AOper:=l128r1a++l128r1b
def l128r2:List AOper :=
 [oQ 12 (.mv Z4) [],oQ 13 (.bin .lss Z12 (.const (.int .i64 0))) [0]]
def l128r3:List AOper :=
 [oQ 14 (.mv Z3) [],oQ 15 (.un .neg Z14) [0],oQ 16 (.mv Z4) [],oQ 17 (.un .neg Z16) [2],oQ 3 (.mv Z15) [1,0,1],oQ 4 (.mv Z17) (3::4::uQ 5)]
def l128r4:List AOper :=
 [oQ 18 (.mv Z3) [],oQ 19 (.bin .leq Z18 (.const (.int .i64 0))) [0]]
def l128r5:List AOper :=
 [oQ 2 (.mv (.const (.int .i64 0))) []]
def l128r6:List AOper :=
 [oQ 20 (.mv Z3) [],oQ 21 (.mv Z4) [],oQ 22 (.bin .add Z20 Z21) [0,1],oQ 23 (.bin .sub Z22 (.const (.int .i64 1))) [2],oQ 24 (.mv Z4) [],oQ 25 (.bin .quo Z23 Z24) [3,4],oQ 2 (.mv Z25) (5::uQ 6)]
def l128:AFn :=
 (AFn.mk 26 1 (.seq (.reg l128r0) (.seq (.draw l128r1) (.seq (.seq (.reg l128r2) (.cond (.tmp 13) (.reg l128r3) .skip)) (.seq (.seq (.reg l128r4) (.cond (.tmp 19) (.seq (.reg l128r5) .ret) .skip)) (.seq (.reg l128r6) .ret))))) [.tmp 2])
theorem l128_eq:lowFn Tryz.prog 128=some l128:=by kernel_rfl
def l129r0:List AOper :=
 [oQ 1 (.box Z0) [],oQ 2 (.alloc [.int .i64 0,.slice none 0 0,.slice none 0 0]) []]
def l129r1:List AOper :=
 [oQ 4 (.load true 8 Z1) [],oQ 5 (.call 146 [Z4]) [0],oQ 3 (.alloc [.int .i64 0,.slice none 0 0,.slice none 0 0]) [],nQ (.store 3 Z3 Z5) [2,1,1,0,1,2]]
def l129r2:List AOper :=
 [oQ 6 (.load true 3 Z3) [],oQ 7 (.call 90 [Z6]) [0],oQ 8 (.bin .eql Z7 (.const (.int .i64 0))) [1]]
def l129r3a:List AOper :=
 [oQ 9 (.fld 1 Z3) [],oQ 10 (.load false 1 Z9) [0],oQ 11 (.len Z10) [1],oQ 12 (.mkslice 1 [.int .i64 0] Z11 Z11) [2,2],oQ 13 (.fld 0 Z3) [0,1],nQ (.store 1 Z13 (.const (.int .i64 0))) [4,0,1]]
def l129r3b:List AOper :=
 [oQ 14 (.fld 2 Z3) (uQ 6),nQ (.store 1 Z14 Z12) (6::3::5::uQ 6)]
def l129r3:List AOper:=l129r3a++l129r3b
def l129r4:List AOper :=
 [oQ 15 (.load true 3 Z3) [],nQ (.store 3 Z2 Z15) [0,0]]
def l129:AFn :=
 (AFn.mk 16 1 (.seq (.reg l129r0) (.seq (.reg l129r1) (.seq (.seq (.reg l129r2) (.cond (.tmp 8) (.draw l129r3) .skip)) (.seq (.reg l129r4) .ret)))) [.cell 2 true 3])
theorem l129_eq:lowFn Tryz.prog 129=some l129:=by kernel_rfl
def l130r0:List AOper :=
 [oQ 3 (.box Z1) [],oQ 4 (.mv (.const (.bool false))) []]
def l130r1:List AOper :=
 [oQ 5 (.mv Z0) [],oQ 6 (.call 45 [Z5]) [0],oQ 7 (.mv Z6) [1,1],gQ 8 (.load true 3 Z3) (some (7,true)) [2],gQ 9 (.mv Z0) (some (7,true)) [2],gQ 10 (.len Z9) (some (7,true)) [4,2],gQ 11 (.call 21 [Z8,Z10]) (some (7,true)) [3,5,2,2],oQ 12 (.pick Z7 Z11 (.const (.bool false))) [2,6],oQ 4 (.mv Z12) (7::6::uQ 8)]
def l130:AFn :=
 (AFn.mk 13 2 (.seq (.reg l130r0) (.seq (.reg l130r1) .ret)) [.tmp 4])
theorem l130_eq:lowFn Tryz.prog 130=some l130:=by kernel_rfl
def l131r0:List AOper :=
 [oQ 4 (.box Z1) [],oQ 6 (.mv (.const (.slice none 0 0))) []]
def l131r1:List AOper :=
 [oQ 11 (.mv Z0) [],oQ 12 (.call 74 [Z11]) [0],oQ 7 (.mv Z12) [1,1,0,1]]
def l131r2a:List AOper :=
 [oQ 13 (.load true 3 Z4) [],oQ 14 (.call 147 [Z13]) [0],oQ 15 (.load true 3 Z4) []]
def l131r2b:List AOper :=
 [oQ 16 (.call 148 [Z15]) [2,1],oQ 8 (.mv Z14) [1,3,0,1],oQ 9 (.mv Z16) (3::4::uQ 5)]
def l131r2:List AOper:=l131r2a++l131r2b
def l131r3:List AOper :=
 [oQ 10 (.mv (.const (.int .i64 0))) []]
def l131r4:List AOper :=
 [oQ 17 (.mv Z10) [],oQ 18 (.mv Z8) [],oQ 19 (.len Z18) [1],oQ 20 (.bin .lss Z17 Z19) [0,2]]
def l131r5:List AOper :=
 [oQ 24 (.mv Z7) [],oQ 25 (.mv Z8) [],oQ 26 (.mv Z10) [],oQ 27 (.idxA 1 Z25 Z26) [1,2],oQ 28 (.load false 1 Z27) [3],oQ 29 (.mv Z9) [],oQ 30 (.call 149 [Z24,Z28,Z29]) [0,4,5],oQ 31 (.mv Z2) [],oQ 32 (.mv Z10) [],oQ 33 (.mv Z9) [],oQ 34 (.call 149 [Z31,Z32,Z33]) [7,8,9,6],oQ 35 (.cpy 1 Z30 Z34) [6,10,10]]
def l131r6:List AOper :=
 [oQ 21 (.mv Z10) [],oQ 22 (.mv Z9) [],oQ 23 (.bin .add Z21 Z22) [0,1],oQ 10 (.mv Z23) [2,0,1,2]]
def l131r7:List AOper :=
 [oQ 36 (.mv Z7) [],oQ 6 (.mv Z36) [0,0]]
def l131:AFn :=
 (AFn.mk 37 3 (.seq (.reg l131r0) (.seq (.reg l131r1) (.seq (.draw l131r2) (.seq (.seq (.reg l131r3) (.block 0 (.loop (.seq (.seq (.reg l131r4) (.cond (.tmp 20) .skip (.exit 0))) (.seq (.block 1 (.reg l131r5)) (.reg l131r6)))))) (.seq (.reg l131r7) .ret))))) [.tmp 6])
theorem l131_eq:lowFn Tryz.prog 131=some l131:=by kernel_rfl
def l132r0:List AOper :=
 [oQ 4 (.mv (.const (.slice none 0 0))) []]
def l132r1:List AOper :=
 [oQ 9 (.mv Z1) [],oQ 10 (.bin .lss Z9 (.const (.int .i64 0))) [0]]
def l132r2:List AOper :=
 [oQ 11 (.raw (Op.makeInterface 9 (.const (.string (ByteArray.mk (Array.mk [(99:UInt8),(97:UInt8),(110:UInt8),(110:UInt8),(111:UInt8),(116:UInt8),(32:UInt8),(98:UInt8),(101:UInt8),(32:UInt8),(110:UInt8),(101:UInt8),(103:UInt8),(97:UInt8),(116:UInt8),(105:UInt8),(118:UInt8),(101:UInt8)])))))) [],nQ (.raw (Op.panic Z11)) [0]]
def l132r3:List AOper :=
 [oQ 13 (.mv Z0) [],oQ 14 (.len Z13) [0],oQ 15 (.conv .u64 Z14) [1],oQ 16 (.mv Z1) [],oQ 17 (.conv .u64 Z16) [3],oQ 18 (.call 150 [Z15,Z17]) [2,4],oQ 12 (.mv Z18) [5],oQ 19 (.extract Z12 0) [6],oQ 20 (.extract Z12 1) [6],oQ 5 (.mv Z19) (7::5::uQ 8),oQ 6 (.mv Z20) (8::9::uQ 10)]
def l132r4:List AOper :=
 [oQ 21 (.mv Z5) [],oQ 22 (.bin .gtr Z21 (.const (.int .u64 0))) [0],oQ 23 (.mv Z22) [1],gQ 24 (.mv Z6) (some (23,false)) [2],gQ 25 (.bin .gtr Z24 (.const (.int .u64 9223372036854775807))) (some (23,false)) [3,2],oQ 26 (.pick Z23 (.const (.bool true)) Z25) [2,4]]
def l132r5:List AOper :=
 [oQ 27 (.raw (Op.makeInterface 9 (.const (.string (ByteArray.mk (Array.mk [(116:UInt8),(104:UInt8),(101:UInt8),(32:UInt8),(114:UInt8),(101:UInt8),(115:UInt8),(117:UInt8),(108:UInt8),(116:UInt8),(32:UInt8),(111:UInt8),(102:UInt8),(32:UInt8),(40:UInt8),(108:UInt8),(101:UInt8),(110:UInt8),(40:UInt8),(120:UInt8),(41:UInt8),(32:UInt8),(42:UInt8),(32:UInt8),(99:UInt8),(111:UInt8),(117:UInt8),(110:UInt8),(116:UInt8),(41:UInt8),(32:UInt8),(111:UInt8),(118:UInt8),(101:UInt8),(114:UInt8),(102:UInt8),(108:UInt8),(111:UInt8),(119:UInt8),(115:UInt8)])))))) [],nQ (.raw (Op.panic Z27)) [0]]
def l132r6:List AOper :=
 [oQ 28 (.mv Z6) [],oQ 29 (.conv .i64 Z28) [0],oQ 30 (.mkslice 1 [.int .i64 0] Z29 Z29) [1,1],oQ 7 (.mv Z30) [2,0,1,2]]
def l132r7:List AOper :=
 [oQ 31 (.mv Z7) [],oQ 32 (.mv Z0) [],oQ 33 (.cpy 1 Z31 Z32) [0,1],oQ 8 (.mv Z33) [2,2,0,1,2]]
def l132r8:List AOper :=
 [oQ 34 (.mv Z8) [],oQ 35 (.mv Z7) [],oQ 36 (.len Z35) [1],oQ 37 (.bin .lss Z34 Z36) [0,2]]
def l132r9a:List AOper :=
 [oQ 38 (.mv Z8) [],oQ 39 (.mv Z7) [],oQ 40 (.mv Z8) [],oQ 41 (.slice 1 Z39 (some Z40) none) [1,2],oQ 42 (.mv Z7) [],oQ 43 (.mv Z8) [],oQ 44 (.slice 1 Z42 none (some Z43)) [4,5],oQ 45 (.cpy 1 Z41 Z44) [3,6]]
def l132r9b:List AOper :=
 [oQ 46 (.bin .add Z38 Z45) [0,7],oQ 8 (.mv Z46) (8::7::uQ 9)]
def l132r9:List AOper:=l132r9a++l132r9b
def l132r10:List AOper :=
 [oQ 47 (.mv Z7) [],oQ 4 (.mv Z47) [0,0]]
def l132:AFn :=
 (AFn.mk 48 2 (.seq (.reg l132r0) (.seq (.seq (.reg l132r1) (.cond (.tmp 10) (.reg l132r2) .skip)) (.seq (.reg l132r3) (.seq (.seq (.reg l132r4) (.cond (.tmp 26) (.reg l132r5) .skip)) (.seq (.reg l132r6) (.seq (.reg l132r7) (.seq (.block 0 (.loop (.seq (.seq (.reg l132r8) (.cond (.tmp 37) .skip (.exit 0))) (.block 1 (.draw l132r9))))) (.seq (.reg l132r10) .ret)))))))) [.tmp 4])
theorem l132_eq:lowFn Tryz.prog 132=some l132:=by kernel_rfl
def l133r0:List AOper :=
 [oQ 4 (.box Z1) [],oQ 5 (.box Z2) [],oQ 6 (.mv (.const (.bool false))) []]
def l133r1:List AOper :=
 [oQ 7 (.mv Z0) [],oQ 8 (.load true 3 Z4) [],oQ 9 (.call 130 [Z7,Z8]) [0,1],oQ 10 (.mv Z9) [2,2],gQ 11 (.mv Z0) (some (10,true)) [3],gQ 12 (.load true 3 Z5) (some (10,true)) [3],gQ 13 (.call 130 [Z11,Z12]) (some (10,true)) [4,5,3,3],oQ 14 (.pick Z10 Z13 (.const (.bool false))) [3,6],oQ 15 (.mv Z14) [7,6],gQ 16 (.fld 1 Z4) (some (15,true)) [8],gQ 17 (.load false 1 Z16) (some (15,true)) [9,8],gQ 18 (.fld 1 Z5) (some (15,true)) [8],gQ 19 (.load false 1 Z18) (some (15,true)) [11,8],gQ 20 (.call 151 [Z17,Z19]) (some (15,true)) [10,12,8,8],oQ 21 (.pick Z15 Z20 (.const (.bool false))) [8,13],oQ 6 (.mv Z21) (14::13::uQ 15)]
def l133:AFn :=
 (AFn.mk 22 3 (.seq (.reg l133r0) (.seq (.reg l133r1) .ret)) [.tmp 6])
theorem l133_eq:lowFn Tryz.prog 133=some l133:=by kernel_rfl
def l134r0:List AOper :=
 [oQ 3 (.box Z1) [],oQ 4 (.mv (.const (.slice none 0 0))) []]
def l134r1a:List AOper :=
 [oQ 9 (.load true 3 Z3) [],oQ 10 (.call 147 [Z9]) [0],oQ 11 (.load true 3 Z3) []]
def l134r1b:List AOper :=
 [oQ 12 (.call 148 [Z11]) [2,1],oQ 5 (.mv Z10) [1,3,0,1],oQ 6 (.mv Z12) (3::4::uQ 5)]
def l134r1:List AOper:=l134r1a++l134r1b
def l134r2:List AOper :=
 [oQ 13 (.mv Z5) [],oQ 14 (.len Z13) [0],oQ 15 (.mkslice 1 [.int .i64 0] Z14 Z14) [1,1],oQ 7 (.mv Z15) [2,0,1,2]]
def l134r3:List AOper :=
 [oQ 8 (.mv (.const (.int .i64 0))) []]
def l134r4:List AOper :=
 [oQ 16 (.mv Z8) [],oQ 17 (.mv Z5) [],oQ 18 (.len Z17) [1],oQ 19 (.bin .lss Z16 Z18) [0,2]]
def l134r5a:List AOper :=
 [oQ 23 (.mv Z7) [],oQ 24 (.mv Z8) [],oQ 25 (.mv Z6) [],oQ 26 (.call 149 [Z23,Z24,Z25]) [0,1,2],oQ 27 (.mv Z0) [],oQ 28 (.mv Z5) [],oQ 29 (.mv Z8) [],oQ 30 (.idxA 1 Z28 Z29) [5,6],oQ 31 (.load false 1 Z30) [7],oQ 32 (.mv Z6) []]
def l134r5b:List AOper :=
 [oQ 33 (.call 149 [Z27,Z31,Z32]) [4,8,9,3],oQ 34 (.cpy 1 Z26 Z33) [3,10,10]]
def l134r5:List AOper:=l134r5a++l134r5b
def l134r6:List AOper :=
 [oQ 20 (.mv Z8) [],oQ 21 (.mv Z6) [],oQ 22 (.bin .add Z20 Z21) [0,1],oQ 8 (.mv Z22) [2,0,1,2]]
def l134r7:List AOper :=
 [oQ 35 (.mv Z7) [],oQ 4 (.mv Z35) [0,0]]
def l134:AFn :=
 (AFn.mk 36 2 (.seq (.reg l134r0) (.seq (.draw l134r1) (.seq (.reg l134r2) (.seq (.seq (.reg l134r3) (.block 0 (.loop (.seq (.seq (.reg l134r4) (.cond (.tmp 19) .skip (.exit 0))) (.seq (.block 1 (.draw l134r5)) (.reg l134r6)))))) (.seq (.reg l134r7) .ret))))) [.tmp 4])
theorem l134_eq:lowFn Tryz.prog 134=some l134:=by kernel_rfl
def l136r0:List AOper :=
 [oQ 2 (.box Z0) [],oQ 4 (.mv (.const (.bool false))) []]
def l136r1:List AOper :=
 [oQ 5 (.mv Z1) [],oQ 6 (.fld 1 Z2) [],oQ 7 (.load false 1 Z6) [1],oQ 8 (.len Z7) [2],oQ 9 (.bin .sub Z8 (.const (.int .i64 1))) [3],oQ 10 (.call 56 [Z5,.const (.int .i64 0),Z9]) [0,4],oQ 4 (.mv Z10) (5::5::uQ 6)]
def l136:AFn :=
 (AFn.mk 11 2 (.seq (.reg l136r0) (.seq (.reg l136r1) .ret)) [.tmp 4])
theorem l136_eq:lowFn Tryz.prog 136=some l136:=by kernel_rfl
def l137r0:List AOper :=
 [oQ 1 (.box Z0) [],oQ 2 (.mv (.const (.bool false))) []]
def l137r1:List AOper :=
 [oQ 3 (.fld 0 Z1) [],oQ 4 (.load false 1 Z3) [0],oQ 5 (.call 56 [Z4,.const (.int .i64 (-100)),.const (.int .i64 100)]) [1],oQ 6 (.mv Z5) [2,2],gQ 7 (.fld 1 Z1) (some (6,true)) [3],gQ 8 (.load false 1 Z7) (some (6,true)) [4,3],gQ 9 (.call 56 [Z8,.const (.int .i64 (-100)),.const (.int .i64 100)]) (some (6,true)) [5,3,3],oQ 10 (.pick Z6 Z9 (.const (.bool false))) [3,6],oQ 11 (.mv Z10) [7,6],gQ 12 (.fld 2 Z1) (some (11,true)) [8],gQ 13 (.load false 1 Z12) (some (11,true)) [9,8],gQ 14 (.call 56 [Z13,.const (.int .i64 (-200)),.const (.int .i64 200)]) (some (11,true)) [10,8,8],oQ 15 (.pick Z11 Z14 (.const (.bool false))) [8,11],oQ 16 (.mv Z15) [12,11],gQ 17 (.fld 2 Z1) (some (16,true)) [13],gQ 18 (.load false 1 Z17) (some (16,true)) [14,13],gQ 19 (.bin .neq Z18 (.const (.int .i64 0))) (some (16,true)) [15,13],oQ 20 (.pick Z16 Z19 (.const (.bool false))) [13,16],oQ 21 (.mv Z20) [17,13],gQ 22 (.fld 3 Z1) (some (21,true)) [18],gQ 23 (.load false 1 Z22) (some (21,true)) [19,18],gQ 24 (.mv Z23) (some (21,true)) [20,18,18],gQ 25 (.fld 0 Z1) (some (24,false)) [21],gQ 26 (.load false 1 Z25) (some (24,false)) [22,21],gQ 27 (.bin .eql Z26 (.const (.int .i64 0))) (some (24,false)) [23,21],gQ 28 (.pick Z24 (.const (.bool true)) Z27) (some (21,true)) [21,24,18],oQ 29 (.pick Z21 Z28 (.const (.bool false))) [18,25],oQ 30 (.mv Z29) [26,21],gQ 31 (.fld 4 Z1) (some (30,true)) [27],gQ 32 (.load false 1 Z31) (some (30,true)) [28,27],gQ 33 (.mv Z32) (some (30,true)) [29,27,27],gQ 34 (.fld 1 Z1) (some (33,false)) [30],gQ 35 (.load false 1 Z34) (some (33,false)) [31,30],gQ 36 (.bin .eql Z35 (.const (.int .i64 0))) (some (33,false)) [32,30],gQ 37 (.pick Z33 (.const (.bool true)) Z36) (some (30,true)) [30,33,27],oQ 38 (.pick Z30 Z37 (.const (.bool false))) [27,34],oQ 2 (.mv Z38) (35::30::uQ 36)]
def l137:AFn :=
 (AFn.mk 39 1 (.seq (.reg l137r0) (.seq (.reg l137r1) .ret)) [.tmp 2])
theorem l137_eq:lowFn Tryz.prog 137=some l137:=by kernel_rfl
def l138r0:List AOper :=
 [oQ 1 (.box Z0) [],oQ 2 (.alloc [.int .i64 0,.slice none 0 0,.slice none 0 0]) [],oQ 3 (.mv (.const (.bool false))) []]
def l138r1:List AOper :=
 [oQ 4 (.load true 3 Z1) [],oQ 5 (.call 92 [Z4]) [0],oQ 6 (.un .not Z5) [1]]
def l138r2:List AOper :=
 [oQ 7 (.build [.int .i64 0,.slice none 0 0,.slice none 0 0] []) [],nQ (.store 3 Z2 Z7) [0,0],oQ 3 (.mv (.const (.bool false))) [1,0,1]]
def l138r3:List AOper :=
 [oQ 8 (.load true 3 Z1) [],oQ 9 (.call 64 [Z8]) [0],nQ (.store 3 Z2 Z9) [1,1,0,1],oQ 3 (.mv (.const (.bool true))) [2,0,1,2]]
def l138:AFn :=
 (AFn.mk 10 1 (.seq (.reg l138r0) (.seq (.seq (.reg l138r1) (.cond (.tmp 6) (.seq (.reg l138r2) .ret) .skip)) (.seq (.reg l138r3) .ret))) [.cell 2 true 3,.tmp 3])
theorem l138_eq:lowFn Tryz.prog 138=some l138:=by kernel_rfl
def l139r0:List AOper :=
 [oQ 3 (.box Z0) [],oQ 5 (.box Z2) [],oQ 6 (.alloc [.int .i64 0,.slice none 0 0,.slice none 0 0]) []]
def l139r1:List AOper :=
 [oQ 10 (.load true 3 Z3) [],oQ 11 (.call 64 [Z10]) [0],oQ 7 (.alloc [.int .i64 0,.slice none 0 0,.slice none 0 0]) [],nQ (.store 3 Z7 Z11) [2,1,1,0,1,2]]
def l139r2a:List AOper :=
 [oQ 12 (.fld 1 Z3) [],oQ 13 (.load false 1 Z12) [0],oQ 14 (.mv Z1) [],oQ 15 (.idxA 1 Z13 Z14) [1,2],oQ 16 (.load false 1 Z15) [3],oQ 17 (.load true 5 Z5) [],oQ 18 (.call 154 [Z16,Z17]) [4,5],oQ 19 (.call 153 [Z18]) [6,6],oQ 8 (.alloc [.int .i64 0,.int .i64 0,.int .i64 0]) []]
def l139r2b:List AOper :=
 [nQ (.store 3 Z8 Z19) (8::7::7::uQ 9)]
def l139r2:List AOper:=l139r2a++l139r2b
def l139r3:List AOper :=
 [oQ 20 (.load true 3 Z8) [],oQ 21 (.call 155 [Z20]) [0],oQ 9 (.mv Z21) [1,1,0,1]]
def l139r4:List AOper :=
 [oQ 22 (.fld 1 Z7) [],oQ 23 (.load false 1 Z22) [0],oQ 24 (.mv Z1) [],oQ 25 (.mv Z9) [],oQ 26 (.len Z25) [3],oQ 27 (.idxA 1 Z23 Z24) (1::2::uQ 5),nQ (.store 1 Z27 Z26) (5::4::uQ 5)]
def l139r5a:List AOper :=
 [oQ 28 (.fld 0 Z3) [],oQ 29 (.load false 1 Z28) [0],oQ 30 (.fld 0 Z8) [],oQ 31 (.load false 1 Z30) [2],oQ 32 (.fld 2 Z3) [],oQ 33 (.load false 1 Z32) [4],oQ 34 (.mv Z1) [],oQ 35 (.idxA 1 Z33 Z34) [5,6],oQ 36 (.load false 1 Z35) [7],oQ 37 (.bin .mul Z31 Z36) [3,8]]
def l139r5b:List AOper :=
 [oQ 38 (.bin .add Z29 Z37) [1,9],oQ 39 (.fld 0 Z7) (uQ 11),nQ (.store 1 Z39 Z38) (11::10::uQ 11)]
def l139r5:List AOper:=l139r5a++l139r5b
def l139r6a:List AOper :=
 [oQ 40 (.fld 2 Z7) [],oQ 41 (.load false 1 Z40) [0],oQ 42 (.mv Z1) [],oQ 43 (.fld 2 Z8) [],oQ 44 (.load false 1 Z43) [3],oQ 45 (.fld 2 Z3) [],oQ 46 (.load false 1 Z45) [5],oQ 47 (.mv Z1) [],oQ 48 (.idxA 1 Z46 Z47) [6,7],oQ 49 (.load false 1 Z48) [8],oQ 50 (.bin .mul Z44 Z49) [4,9]]
def l139r6b:List AOper :=
 [oQ 51 (.idxA 1 Z41 Z42) (1::2::uQ 11),nQ (.store 1 Z51 Z50) (11::10::uQ 11)]
def l139r6:List AOper:=l139r6a++l139r6b
def l139r7:List AOper :=
 [oQ 52 (.mv Z9) [],oQ 53 (.len Z52) [0],oQ 54 (.bin .leq Z53 (.const (.int .i64 1))) [1]]
def l139r8:List AOper :=
 [oQ 55 (.fld 2 Z7) [],oQ 56 (.load false 1 Z55) [0],oQ 57 (.mv Z1) [],oQ 58 (.idxA 1 Z56 Z57) [1,2,0,1,2],nQ (.store 1 Z58 (.const (.int .i64 0))) [3,0,1,2]]
def l139r9:List AOper :=
 [oQ 59 (.load true 3 Z7) [],oQ 60 (.call 156 [Z59]) [0],nQ (.store 3 Z6 Z60) [1,1,0,1]]
def l139:AFn :=
 (AFn.mk 61 3 (.seq (.reg l139r0) (.seq (.reg l139r1) (.seq (.draw l139r2) (.seq (.reg l139r3) (.seq (.reg l139r4) (.seq (.draw l139r5) (.seq (.draw l139r6) (.seq (.seq (.reg l139r7) (.cond (.tmp 54) (.reg l139r8) .skip)) (.seq (.reg l139r9) .ret))))))))) [.cell 6 true 3])
theorem l139_eq:lowFn Tryz.prog 139=some l139:=by kernel_rfl
def l140r0:List AOper :=
 [oQ 3 (.box Z1) [],oQ 4 (.mv (.const (.bool false))) []]
def l140r1:List AOper :=
 [oQ 5 (.mv Z0) [],oQ 6 (.call 55 [Z5]) [0],oQ 7 (.mv Z6) [1,1],gQ 8 (.load true 3 Z3) (some (7,true)) [2],gQ 9 (.call 92 [Z8]) (some (7,true)) [3,2,2],oQ 10 (.pick Z7 Z9 (.const (.bool false))) [2,4],oQ 11 (.mv Z10) [5,4],gQ 12 (.load true 3 Z3) (some (11,true)) [6],gQ 13 (.mv Z0) (some (11,true)) [6],gQ 14 (.len Z13) (some (11,true)) [8,6],gQ 15 (.call 93 [Z12,Z14]) (some (11,true)) [7,9,6,6],oQ 16 (.pick Z11 Z15 (.const (.bool false))) [6,10],oQ 4 (.mv Z16) (11::10::uQ 12)]
def l140:AFn :=
 (AFn.mk 17 2 (.seq (.reg l140r0) (.seq (.reg l140r1) .ret)) [.tmp 4])
theorem l140_eq:lowFn Tryz.prog 140=some l140:=by kernel_rfl
def l141r0:List AOper :=
 [oQ 4 (.box Z1) [],oQ 5 (.box Z2) [],oQ 6 (.mv (.const (.bool false))) []]
def l141r1:List AOper :=
 [oQ 7 (.mv Z0) [],oQ 8 (.load true 3 Z4) [],oQ 9 (.call 140 [Z7,Z8]) [0,1],oQ 10 (.mv Z9) [2,2],gQ 11 (.mv Z0) (some (10,true)) [3],gQ 12 (.load true 3 Z5) (some (10,true)) [3],gQ 13 (.call 140 [Z11,Z12]) (some (10,true)) [4,5,3,3],oQ 14 (.pick Z10 Z13 (.const (.bool false))) [3,6],oQ 15 (.mv Z14) [7,6],gQ 16 (.fld 1 Z4) (some (15,true)) [8],gQ 17 (.load false 1 Z16) (some (15,true)) [9,8],gQ 18 (.fld 1 Z5) (some (15,true)) [8],gQ 19 (.load false 1 Z18) (some (15,true)) [11,8],gQ 20 (.call 157 [Z17,Z19]) (some (15,true)) [10,12,8,8],oQ 21 (.pick Z15 Z20 (.const (.bool false))) [8,13],oQ 6 (.mv Z21) (14::13::uQ 15)]
def l141:AFn :=
 (AFn.mk 22 3 (.seq (.reg l141r0) (.seq (.reg l141r1) .ret)) [.tmp 6])
theorem l141_eq:lowFn Tryz.prog 141=some l141:=by kernel_rfl
def l142r0:List AOper :=
 [oQ 4 (.box Z1) [],oQ 6 (.mv (.const (.slice none 0 0))) []]
def l142r1:List AOper :=
 [oQ 10 (.mv Z0) [],oQ 11 (.call 63 [Z10]) [0],oQ 7 (.mv Z11) [1,1,0,1]]
def l142r2:List AOper :=
 [oQ 12 (.load true 3 Z4) [],oQ 13 (.call 101 [Z12]) [0],oQ 8 (.mv Z13) [1,1,0,1]]
def l142r3:List AOper :=
 [oQ 9 (.mv (.const (.int .i64 0))) []]
def l142r4:List AOper :=
 [oQ 14 (.mv Z9) [],oQ 15 (.mv Z8) [],oQ 16 (.len Z15) [1],oQ 17 (.bin .lss Z14 Z16) [0,2]]
def l142r5a:List AOper :=
 [oQ 20 (.mv Z7) [],oQ 21 (.mv Z8) [],oQ 22 (.mv Z9) [],oQ 23 (.idxA 1 Z21 Z22) [1,2],oQ 24 (.load false 1 Z23) [3],oQ 25 (.mv Z2) [],oQ 26 (.mv Z9) [],oQ 27 (.idxA 1 Z25 Z26) [5,6],oQ 28 (.load false 1 Z27) [7]]
def l142r5b:List AOper :=
 [oQ 29 (.idxA 1 Z20 Z24) (0::4::uQ 9),nQ (.store 1 Z29 Z28) (9::8::uQ 9)]
def l142r5:List AOper:=l142r5a++l142r5b
def l142r6:List AOper :=
 [oQ 18 (.mv Z9) [],oQ 19 (.bin .add Z18 (.const (.int .i64 1))) [0],oQ 9 (.mv Z19) [1,0,1]]
def l142r7:List AOper :=
 [oQ 30 (.mv Z7) [],oQ 6 (.mv Z30) [0,0]]
def l142:AFn :=
 (AFn.mk 31 3 (.seq (.reg l142r0) (.seq (.reg l142r1) (.seq (.reg l142r2) (.seq (.seq (.reg l142r3) (.block 0 (.loop (.seq (.seq (.reg l142r4) (.cond (.tmp 17) .skip (.exit 0))) (.seq (.block 1 (.draw l142r5)) (.reg l142r6)))))) (.seq (.reg l142r7) .ret))))) [.tmp 6])
theorem l142_eq:lowFn Tryz.prog 142=some l142:=by kernel_rfl
def l143r0:List AOper :=
 [oQ 4 (.mv (.const (.bool false))) []]
def l143r1:List AOper :=
 [oQ 5 (.mv Z0) [],oQ 6 (.call 66 [Z5,.const (.int .i64 100)]) [0],oQ 7 (.mv Z6) [1,1],gQ 8 (.mv Z1) (some (7,true)) [2],gQ 9 (.mv Z8) (some (7,true)) [3,2,2],gQ 10 (.mv Z0) (some (9,false)) [4],gQ 11 (.bin .eql Z10 (.const (.int .i64 0))) (some (9,false)) [5,4],gQ 12 (.pick Z9 (.const (.bool true)) Z11) (some (7,true)) [4,6,2],oQ 13 (.pick Z7 Z12 (.const (.bool false))) [2,7],oQ 4 (.mv Z13) (8::4::uQ 9)]
def l143:AFn :=
 (AFn.mk 14 2 (.seq (.reg l143r0) (.seq (.reg l143r1) .ret)) [.tmp 4])
theorem l143_eq:lowFn Tryz.prog 143=some l143:=by kernel_rfl
def l144r0:List AOper :=
 [oQ 2 (.mv (.const (.bool false))) []]
def l144r1:List AOper :=
 [oQ 3 (.mv Z0) [],oQ 4 (.call 66 [Z3,.const (.int .i64 200)]) [0],oQ 5 (.mv Z4) [1,1],gQ 6 (.mv Z0) (some (5,true)) [2],gQ 7 (.bin .neq Z6 (.const (.int .i64 0))) (some (5,true)) [3,2],oQ 8 (.pick Z5 Z7 (.const (.bool false))) [2,4],oQ 2 (.mv Z8) (5::2::uQ 6)]
def l144:AFn :=
 (AFn.mk 9 1 (.seq (.reg l144r0) (.seq (.reg l144r1) .ret)) [.tmp 2])
theorem l144_eq:lowFn Tryz.prog 144=some l144:=by kernel_rfl
def l145r0:List AOper :=
 [oQ 8 (.mv (.const (.int .i64 0))) []]
def l145r1:List AOper :=
 [oQ 9 (.mv Z0) [],oQ 10 (.bin .lss Z9 (.const (.int .i64 0))) [0]]
def l145r2:List AOper :=
 [oQ 11 (.mv Z0) [],oQ 12 (.mv Z1) [],oQ 13 (.bin .add Z11 Z12) [0,1],oQ 0 (.mv Z13) [2,0,1,2]]
def l145r3:List AOper :=
 [oQ 14 (.mv Z0) [],oQ 15 (.mv Z2) [],oQ 16 (.minmax true Z14 Z15) [0,1],oQ 17 (.mv Z3) [],oQ 18 (.minmax false Z16 Z17) [2,3],oQ 8 (.mv Z18) (4::uQ 5)]
def l145:AFn :=
 (AFn.mk 19 4 (.seq (.reg l145r0) (.seq (.seq (.reg l145r1) (.cond (.tmp 10) (.reg l145r2) .skip)) (.seq (.reg l145r3) .ret))) [.tmp 8])
theorem l145_eq:lowFn Tryz.prog 145=some l145:=by kernel_rfl
def l146r0:List AOper :=
 [oQ 1 (.box Z0) [],oQ 2 (.alloc [.int .i64 0,.slice none 0 0,.slice none 0 0]) []]
def l146r1:List AOper :=
 [oQ 6 (.fld 0 Z1) [],oQ 7 (.load true 3 Z6) [0],oQ 8 (.fld 3 Z1) [],oQ 9 (.load true 4 Z8) [2],oQ 10 (.call 158 [Z7,Z9]) [1,3],oQ 11 (.build [.int .i64 0,.slice none 0 0,.slice none 0 0] [(0,1,Z10)]) [4],oQ 3 (.alloc [.int .i64 0,.slice none 0 0,.slice none 0 0]) [],nQ (.store 3 Z3 Z11) (6::5::4::uQ 7)]
def l146r2:List AOper :=
 [oQ 12 (.fld 7 Z1) [],oQ 13 (.load false 1 Z12) [0],oQ 14 (.len Z13) [1],oQ 15 (.mv (.const (.int .i64 0))) []]
def l146r3:List AOper :=
 [oQ 16 (.bin .lss Z15 Z14) []]
def l146r4:List AOper :=
 [oQ 17 (.idxA 2 Z13 Z15) [],oQ 18 (.load true 2 Z17) [0],oQ 5 (.alloc [.int .i64 0,.int .i64 0]) [],nQ (.store 2 Z5 Z18) [2,1,0,1,2]]
def l146r5:List AOper :=
 [oQ 19 (.fld 1 Z3) [],oQ 20 (.load false 1 Z19) [0],oQ 21 (.fld 0 Z5) [],oQ 22 (.load false 1 Z21) [2],oQ 23 (.bslice 1 [.int .i64 0] [(0,Z22)] 1) [3],oQ 24 (.append 1 Z20 Z23) [1,4],oQ 25 (.fld 1 Z3) (uQ 6),nQ (.store 1 Z25 Z24) (6::5::5::uQ 6)]
def l146r6:List AOper :=
 [oQ 26 (.fld 2 Z3) [],oQ 27 (.load false 1 Z26) [0],oQ 28 (.fld 1 Z5) [],oQ 29 (.load false 1 Z28) [2],oQ 30 (.bslice 1 [.int .i64 0] [(0,Z29)] 1) [3],oQ 31 (.append 1 Z27 Z30) [1,4],oQ 32 (.fld 2 Z3) (uQ 6),nQ (.store 1 Z32 Z31) (6::5::5::uQ 6)]
def l146r7:List AOper :=
 [oQ 33 (.bin .add Z15 (.const (.int .i64 1))) [],oQ 15 (.mv Z33) [0]]
def l146r8:List AOper :=
 [oQ 34 (.load true 3 Z3) [],nQ (.store 3 Z2 Z34) [0,0]]
def l146:AFn :=
 (AFn.mk 35 1 (.seq (.reg l146r0) (.seq (.reg l146r1) (.seq (.seq (.reg l146r2) (.block 0 (.loop (.seq (.reg l146r3) (.seq (.cond (.tmp 16) .skip (.exit 0)) (.seq (.block 1 (.seq (.reg l146r4) (.seq (.reg l146r5) (.reg l146r6)))) (.reg l146r7))))))) (.seq (.reg l146r8) .ret)))) [.cell 2 true 3])
theorem l146_eq:lowFn Tryz.prog 146=some l146:=by kernel_rfl
def l147r0:List AOper :=
 [oQ 1 (.box Z0) [],oQ 2 (.mv (.const (.slice none 0 0))) []]
def l147r1:List AOper :=
 [oQ 5 (.load true 3 Z1) [],oQ 6 (.call 90 [Z5]) [0],oQ 7 (.mkslice 1 [.int .i64 0] Z6 Z6) [1,1],oQ 3 (.mv Z7) [2,1,0,1,2]]
def l147r2:List AOper :=
 [oQ 8 (.mv Z3) [],oQ 9 (.len Z8) [0],oQ 10 (.mv (.const (.int .i64 0))) []]
def l147r3:List AOper :=
 [oQ 11 (.bin .lss Z10 Z9) []]
def l147r4:List AOper :=
 [oQ 12 (.mv Z10) [],oQ 4 (.mv Z12) [0,0]]
def l147r5a:List AOper :=
 [oQ 13 (.mv Z3) [],oQ 14 (.mv Z4) [],oQ 15 (.load true 3 Z1) [],oQ 16 (.fld 1 Z1) [],oQ 17 (.load false 1 Z16) [3],oQ 18 (.mv Z4) [],oQ 19 (.call 159 [Z17,Z18]) [4,5],oQ 20 (.call 158 [Z15,Z19]) [2,6,6]]
def l147r5b:List AOper :=
 [oQ 21 (.idxA 1 Z13 Z14) (0::1::uQ 8),nQ (.store 1 Z21 Z20) (8::7::7::uQ 8)]
def l147r5:List AOper:=l147r5a++l147r5b
def l147r6:List AOper :=
 [oQ 22 (.bin .add Z10 (.const (.int .i64 1))) [],oQ 10 (.mv Z22) [0]]
def l147r7:List AOper :=
 [oQ 23 (.mv Z3) [],oQ 2 (.mv Z23) [0,0]]
def l147:AFn :=
 (AFn.mk 24 1 (.seq (.reg l147r0) (.seq (.reg l147r1) (.seq (.seq (.reg l147r2) (.block 0 (.loop (.seq (.reg l147r3) (.seq (.cond (.tmp 11) .skip (.exit 0)) (.seq (.block 1 (.seq (.reg l147r4) (.draw l147r5))) (.reg l147r6))))))) (.seq (.reg l147r7) .ret)))) [.tmp 2])
theorem l147_eq:lowFn Tryz.prog 147=some l147:=by kernel_rfl
def l148r0:List AOper :=
 [oQ 1 (.box Z0) [],oQ 2 (.mv (.const (.int .i64 0))) []]
def l148r1:List AOper :=
 [oQ 4 (.fld 1 Z1) [],oQ 5 (.load false 1 Z4) [0],oQ 6 (.len Z5) [1],oQ 7 (.bin .sub Z6 (.const (.int .i64 1))) [2],oQ 3 (.mv Z7) [3,0,1,2,3]]
def l148r2:List AOper :=
 [oQ 8 (.mv Z3) [],oQ 9 (.bin .lss Z8 (.const (.int .i64 0))) [0],oQ 10 (.mv Z9) [1],gQ 11 (.fld 2 Z1) (some (10,false)) [2],gQ 12 (.load false 1 Z11) (some (10,false)) [3,2],gQ 13 (.mv Z3) (some (10,false)) [2],gQ 14 (.idxA 1 Z12 Z13) (some (10,false)) [4,5,2],gQ 15 (.load false 1 Z14) (some (10,false)) [6,2],gQ 16 (.bin .neq Z15 (.const (.int .i64 1))) (some (10,false)) [7,2],oQ 17 (.pick Z10 (.const (.bool true)) Z16) [2,8]]
def l148r3:List AOper :=
 [oQ 2 (.mv (.const (.int .i64 1))) []]
def l148r4:List AOper :=
 [oQ 18 (.fld 1 Z1) [],oQ 19 (.load false 1 Z18) [0],oQ 20 (.mv Z3) [],oQ 21 (.idxA 1 Z19 Z20) [1,2],oQ 22 (.load false 1 Z21) [3],oQ 2 (.mv Z22) (4::uQ 5)]
def l148:AFn :=
 (AFn.mk 23 1 (.seq (.reg l148r0) (.seq (.reg l148r1) (.seq (.seq (.reg l148r2) (.cond (.tmp 17) (.seq (.reg l148r3) .ret) .skip)) (.seq (.reg l148r4) .ret)))) [.tmp 2])
theorem l148_eq:lowFn Tryz.prog 148=some l148:=by kernel_rfl
def l149r0:List AOper :=
 [oQ 6 (.mv (.const (.slice none 0 0))) []]
def l149r1:List AOper :=
 [oQ 8 (.mv Z1) [],oQ 9 (.mv Z2) [],oQ 10 (.bin .add Z8 Z9) [0,1],oQ 7 (.mv Z10) [2,0,1,2]]
def l149r2:List AOper :=
 [oQ 11 (.mv Z0) [],oQ 12 (.mv Z1) [],oQ 13 (.mv Z7) [],oQ 14 (.mv Z7) [],oQ 15 (.slice3 1 Z11 (some Z12) Z13 Z14) [0,1,2,3],oQ 6 (.mv Z15) (4::uQ 5)]
def l149:AFn :=
 (AFn.mk 16 3 (.seq (.reg l149r0) (.seq (.reg l149r1) (.seq (.reg l149r2) .ret))) [.tmp 6])
theorem l149_eq:lowFn Tryz.prog 149=some l149:=by kernel_rfl
def l150r0:List AOper :=
 [oQ 4 (.mv (.const (.int .u64 0))) [],oQ 5 (.mv (.const (.int .u64 0))) [0]]
def l150r1:List AOper :=
 [oQ 11 (.mv Z0) [],oQ 12 (.conv .u32 Z11) [0],oQ 13 (.mv Z1) [],oQ 14 (.conv .u32 Z13) [2],oQ 15 (.call 160 [Z12,Z14]) [1,3],oQ 10 (.mv Z15) [4],oQ 16 (.extract Z10 0) [5],oQ 17 (.extract Z10 1) [5],oQ 6 (.mv Z16) (6::4::uQ 7),oQ 7 (.mv Z17) (7::8::uQ 9)]
def l150r2:List AOper :=
 [oQ 18 (.mv Z6) [],oQ 19 (.conv .u64 Z18) [0],oQ 20 (.mv Z7) [],oQ 21 (.conv .u64 Z20) [2],oQ 4 (.mv Z19) [1,0,1],oQ 5 (.mv Z21) (3::4::uQ 5)]
def l150r3:List AOper :=
 [oQ 23 (.mv Z0) [],oQ 24 (.mv Z1) [],oQ 25 (.call 161 [Z23,Z24]) [0,1],oQ 22 (.mv Z25) [2],oQ 26 (.extract Z22 0) [3],oQ 27 (.extract Z22 1) [3],oQ 8 (.mv Z26) (4::2::uQ 5),oQ 9 (.mv Z27) (5::6::uQ 7)]
def l150r4:List AOper :=
 [oQ 28 (.mv Z8) [],oQ 29 (.mv Z9) [],oQ 4 (.mv Z28) [0,0],oQ 5 (.mv Z29) [1,2,0,1,2]]
def l150:AFn :=
 (AFn.mk 30 2 (.seq (.reg l150r0) (.seq (.cond (.const (.bool false)) (.seq (.reg l150r1) (.seq (.reg l150r2) .ret)) .skip) (.seq (.reg l150r3) (.seq (.reg l150r4) .ret)))) [.tmp 4,.tmp 5])
theorem l150_eq:lowFn Tryz.prog 150=some l150:=by kernel_rfl
def l151r0:List AOper :=
 [oQ 4 (.mv (.const (.bool false))) []]
def l151r1:List AOper :=
 [oQ 6 (.mv Z0) [],oQ 7 (.len Z6) [0],oQ 8 (.mv Z1) [],oQ 9 (.len Z8) [2],oQ 10 (.bin .neq Z7 Z9) [1,3]]
def l151r2:List AOper :=
 [oQ 4 (.mv (.const (.bool false))) []]
def l151r3:List AOper :=
 [oQ 11 (.mv Z0) [],oQ 12 (.len Z11) [0],oQ 13 (.mv (.const (.int .i64 0))) []]
def l151r4:List AOper :=
 [oQ 14 (.bin .lss Z13 Z12) []]
def l151r5:List AOper :=
 [oQ 15 (.mv Z13) [],oQ 5 (.mv Z15) [0,0]]
def l151r6a:List AOper :=
 [oQ 16 (.mv Z0) [],oQ 17 (.mv Z5) [],oQ 18 (.idxA 1 Z16 Z17) [0,1],oQ 19 (.load false 1 Z18) [2],oQ 20 (.mv Z1) [],oQ 21 (.mv Z5) [],oQ 22 (.idxA 1 Z20 Z21) [4,5],oQ 23 (.load false 1 Z22) [6]]
def l151r6b:List AOper :=
 [oQ 24 (.bin .neq Z19 Z23) [3,7]]
def l151r6:List AOper:=l151r6a++l151r6b
def l151r7:List AOper :=
 [oQ 4 (.mv (.const (.bool false))) []]
def l151r8:List AOper :=
 [oQ 25 (.bin .add Z13 (.const (.int .i64 1))) [],oQ 13 (.mv Z25) [0]]
def l151r9:List AOper :=
 [oQ 4 (.mv (.const (.bool true))) []]
def l151:AFn :=
 (AFn.mk 26 2 (.seq (.reg l151r0) (.seq (.seq (.reg l151r1) (.cond (.tmp 10) (.seq (.reg l151r2) .ret) .skip)) (.seq (.seq (.reg l151r3) (.block 0 (.loop (.seq (.reg l151r4) (.seq (.cond (.tmp 14) .skip (.exit 0)) (.seq (.block 1 (.seq (.reg l151r5) (.seq (.draw l151r6) (.cond (.tmp 24) (.seq (.reg l151r7) .ret) .skip)))) (.reg l151r8))))))) (.seq (.reg l151r9) .ret)))) [.tmp 4])
theorem l151_eq:lowFn Tryz.prog 151=some l151:=by kernel_rfl
def l153r0:List AOper :=
 [oQ 2 (.alloc [.int .i64 0,.int .i64 0,.int .i64 0]) []]
def l153r1:List AOper :=
 [oQ 5 (.mv Z0) [],oQ 6 (.len Z5) [0]]
def l153r2:List AOper :=
 [oQ 8 (.bin .eql Z6 (.const (.int .i64 0))) [],oQ 7 (.mv Z8) [0]]
def l153r3:List AOper :=
 [oQ 9 (.build [.int .i64 0,.int .i64 0,.int .i64 0] [(0,1,.const (.int .i64 0)),(1,1,.const (.int .i64 0)),(2,1,.const (.int .i64 1))]) [],nQ (.store 3 Z2 Z9) [0,0]]
def l153r4:List AOper :=
 [oQ 11 (.bin .eql Z6 (.const (.int .i64 1))) [],oQ 10 (.mv Z11) [0]]
def l153r5a:List AOper :=
 [oQ 12 (.mv Z0) [],oQ 13 (.idxA 1 Z12 (.const (.int .i64 0))) [0],oQ 14 (.load false 1 Z13) [1],oQ 15 (.mv Z0) [],oQ 16 (.idxA 1 Z15 (.const (.int .i64 0))) [3],oQ 17 (.load false 1 Z16) [4],oQ 18 (.bin .add Z17 (.const (.int .i64 1))) [5]]
def l153r5b:List AOper :=
 [oQ 19 (.build [.int .i64 0,.int .i64 0,.int .i64 0] [(0,1,Z14),(1,1,Z18),(2,1,.const (.int .i64 1))]) [2,6],nQ (.store 3 Z2 Z19) (7::uQ 8)]
def l153r5:List AOper:=l153r5a++l153r5b
def l153r6a:List AOper :=
 [oQ 20 (.mv Z0) [],oQ 21 (.idxA 1 Z20 (.const (.int .i64 1))) [0],oQ 22 (.load false 1 Z21) [1],oQ 23 (.mv Z0) [],oQ 24 (.idxA 1 Z23 (.const (.int .i64 0))) [3],oQ 25 (.load false 1 Z24) [4]]
def l153r6b:List AOper :=
 [oQ 26 (.bin .sub Z22 Z25) [2,5],oQ 3 (.mv Z26) (6::uQ 7)]
def l153r6:List AOper:=l153r6a++l153r6b
def l153r7:List AOper :=
 [oQ 27 (.mv Z0) [],oQ 28 (.mv Z0) [],oQ 29 (.len Z28) [1],oQ 30 (.bin .sub Z29 (.const (.int .i64 1))) [2],oQ 31 (.idxA 1 Z27 Z30) [0,3],oQ 32 (.load false 1 Z31) [4],oQ 33 (.bin .add Z32 (.const (.int .i64 1))) [5],oQ 4 (.mv Z33) (6::uQ 7)]
def l153r8:List AOper :=
 [oQ 34 (.mv Z3) [],oQ 35 (.bin .lss Z34 (.const (.int .i64 0))) [0]]
def l153r9:List AOper :=
 [oQ 36 (.mv Z0) [],oQ 37 (.mv Z0) [],oQ 38 (.len Z37) [1],oQ 39 (.bin .sub Z38 (.const (.int .i64 1))) [2],oQ 40 (.idxA 1 Z36 Z39) [0,3],oQ 41 (.load false 1 Z40) [4],oQ 42 (.bin .sub Z41 (.const (.int .i64 1))) [5],oQ 4 (.mv Z42) (6::uQ 7)]
def l153r10:List AOper :=
 [oQ 43 (.mv Z0) [],oQ 44 (.idxA 1 Z43 (.const (.int .i64 0))) [0],oQ 45 (.load false 1 Z44) [1],oQ 46 (.mv Z4) [],oQ 47 (.mv Z3) [],oQ 48 (.build [.int .i64 0,.int .i64 0,.int .i64 0] [(0,1,Z45),(1,1,Z46),(2,1,Z47)]) [2,3,4],nQ (.store 3 Z2 Z48) (5::uQ 6)]
def l153:AFn :=
 (AFn.mk 49 1 (.seq (.reg l153r0) (.seq (.seq (.reg l153r1) (.block 0 (.seq (.reg l153r2) (.cond (.tmp 7) (.seq (.reg l153r3) .ret) (.seq (.reg l153r4) (.cond (.tmp 10) (.seq (.draw l153r5) .ret) .skip)))))) (.seq (.draw l153r6) (.seq (.reg l153r7) (.seq (.seq (.reg l153r8) (.cond (.tmp 35) (.reg l153r9) .skip)) (.seq (.reg l153r10) .ret)))))) [.cell 2 true 3])
theorem l153_eq:lowFn Tryz.prog 153=some l153:=by kernel_rfl
def l154r0:List AOper :=
 [oQ 3 (.box Z1) [],oQ 4 (.mv (.const (.slice none 0 0))) []]
def l154r1:List AOper :=
 [oQ 5 (.mv (.const (.int .i64 0))) []]
def l154r2:List AOper :=
 [oQ 7 (.mv Z0) [],oQ 6 (.mv Z7) [0,0]]
def l154r3:List AOper :=
 [oQ 8 (.fld 2 Z3) [],oQ 9 (.load false 1 Z8) [0],oQ 10 (.bin .lss Z9 (.const (.int .i64 0))) [1]]
def l154r4:List AOper :=
 [oQ 11 (.mv Z0) [],oQ 12 (.bin .sub Z11 (.const (.int .i64 1))) [0],oQ 5 (.mv Z12) [1,0,1]]
def l154r5:List AOper :=
 [oQ 6 (.mv (.const (.int .i64 (-1)))) []]
def l154r6:List AOper :=
 [oQ 13 (.fld 3 Z3) [],oQ 14 (.load false 1 Z13) [0]]
def l154r7:List AOper :=
 [oQ 15 (.mv Z0) [],oQ 16 (.fld 0 Z3) [],oQ 17 (.load false 1 Z16) [1],oQ 18 (.fld 2 Z3) [],oQ 19 (.load false 1 Z18) [3],oQ 20 (.call 166 [Z15,Z17,Z19]) [0,2,4],oQ 5 (.mv Z20) (5::5::uQ 6)]
def l154r8:List AOper :=
 [oQ 21 (.fld 4 Z3) [],oQ 22 (.load false 1 Z21) [0]]
def l154r9:List AOper :=
 [oQ 23 (.mv Z0) [],oQ 24 (.fld 1 Z3) [],oQ 25 (.load false 1 Z24) [1],oQ 26 (.fld 2 Z3) [],oQ 27 (.load false 1 Z26) [3],oQ 28 (.call 166 [Z23,Z25,Z27]) [0,2,4],oQ 6 (.mv Z28) (5::5::uQ 6)]
def l154r10:List AOper :=
 [oQ 29 (.mv Z5) [],oQ 30 (.mv Z6) [],oQ 31 (.fld 2 Z3) [],oQ 32 (.load false 1 Z31) [2],oQ 33 (.build [.int .i64 0,.int .i64 0,.int .i64 0] [(0,1,Z29),(1,1,Z30),(2,1,Z32)]) [0,1,3],oQ 34 (.call 155 [Z33]) [4],oQ 4 (.mv Z34) (5::5::uQ 6)]
def l154:AFn :=
 (AFn.mk 35 2 (.seq (.reg l154r0) (.seq (.reg l154r1) (.seq (.reg l154r2) (.seq (.seq (.reg l154r3) (.cond (.tmp 10) (.seq (.reg l154r4) (.reg l154r5)) .skip)) (.seq (.seq (.reg l154r6) (.cond (.tmp 14) (.reg l154r7) .skip)) (.seq (.seq (.reg l154r8) (.cond (.tmp 22) (.reg l154r9) .skip)) (.seq (.reg l154r10) .ret))))))) [.tmp 4])
theorem l154_eq:lowFn Tryz.prog 154=some l154:=by kernel_rfl
def l155r0:List AOper :=
 [oQ 1 (.box Z0) [],oQ 2 (.mv (.const (.slice none 0 0))) []]
def l155r1:List AOper :=
 [oQ 5 (.bslice 1 [.int .i64 0] [] 0) [],oQ 3 (.mv Z5) [0,0]]
def l155r2:List AOper :=
 [oQ 6 (.fld 0 Z1) [],oQ 7 (.load false 1 Z6) [0],oQ 4 (.mv Z7) [1,0,1]]
def l155r3:List AOper :=
 [oQ 8 (.fld 2 Z1) [],oQ 9 (.load false 1 Z8) [0],oQ 10 (.bin .gtr Z9 (.const (.int .i64 0))) [1],oQ 11 (.mv Z10) [2],gQ 12 (.mv Z4) (some (11,true)) [3],gQ 13 (.fld 1 Z1) (some (11,true)) [3],gQ 14 (.load false 1 Z13) (some (11,true)) [5,3],gQ 15 (.bin .lss Z12 Z14) (some (11,true)) [4,6,3],oQ 16 (.pick Z11 Z15 (.const (.bool false))) [3,7],oQ 17 (.mv Z16) [8,3],gQ 18 (.fld 2 Z1) (some (17,false)) [9],gQ 19 (.load false 1 Z18) (some (17,false)) [10,9],gQ 20 (.bin .lss Z19 (.const (.int .i64 0))) (some (17,false)) [11,9],gQ 21 (.mv Z20) (some (17,false)) [12,9,9],gQ 22 (.mv Z4) (some (21,true)) [13],gQ 23 (.fld 1 Z1) (some (21,true)) [13],gQ 24 (.load false 1 Z23) (some (21,true)) [15,13],gQ 25 (.bin .gtr Z22 Z24) (some (21,true)) [14,16,13],gQ 26 (.pick Z21 Z25 (.const (.bool false))) (some (17,false)) [13,17,9],oQ 27 (.pick Z17 (.const (.bool true)) Z26) [9,18]]
def l155r4:List AOper :=
 [oQ 32 (.mv Z3) [],oQ 33 (.mv Z4) [],oQ 34 (.bslice 1 [.int .i64 0] [(0,Z33)] 1) [1],oQ 35 (.append 1 Z32 Z34) [0,2],oQ 3 (.mv Z35) [3,3,0,1,2,3]]
def l155r5:List AOper :=
 [oQ 28 (.mv Z4) [],oQ 29 (.fld 2 Z1) [],oQ 30 (.load false 1 Z29) [1],oQ 31 (.bin .add Z28 Z30) [0,2],oQ 4 (.mv Z31) [3,0,1,2,3]]
def l155r6:List AOper :=
 [oQ 36 (.mv Z3) [],oQ 2 (.mv Z36) [0,0]]
def l155:AFn :=
 (AFn.mk 37 1 (.seq (.reg l155r0) (.seq (.reg l155r1) (.seq (.seq (.reg l155r2) (.block 0 (.loop (.seq (.seq (.reg l155r3) (.cond (.tmp 27) .skip (.exit 0))) (.seq (.block 1 (.reg l155r4)) (.reg l155r5)))))) (.seq (.reg l155r6) .ret)))) [.tmp 2])
theorem l155_eq:lowFn Tryz.prog 155=some l155:=by kernel_rfl
def l156r0:List AOper :=
 [oQ 1 (.box Z0) [],oQ 2 (.alloc [.int .i64 0,.slice none 0 0,.slice none 0 0]) []]
def l156r1:List AOper :=
 [oQ 3 (.fld 1 Z1) [],oQ 4 (.load false 1 Z3) [0],oQ 5 (.call 115 [Z4]) [1],oQ 6 (.bin .eql Z5 (.const (.int .i64 0))) [2]]
def l156r2a:List AOper :=
 [oQ 7 (.fld 1 Z1) [],oQ 8 (.load false 1 Z7) [0],oQ 9 (.fld 1 Z1) [],oQ 10 (.load false 1 Z9) [2],oQ 11 (.len Z10) [3],oQ 12 (.mkslice 1 [.int .i64 0] Z11 Z11) [4,4]]
def l156r2b:List AOper :=
 [oQ 13 (.build [.int .i64 0,.slice none 0 0,.slice none 0 0] [(1,1,Z8),(2,1,Z12)]) [1,5],nQ (.store 3 Z2 Z13) (6::uQ 7)]
def l156r2:List AOper:=l156r2a++l156r2b
def l156r3:List AOper :=
 [oQ 14 (.load true 3 Z1) [],nQ (.store 3 Z2 Z14) [0,0]]
def l156:AFn :=
 (AFn.mk 15 1 (.seq (.reg l156r0) (.seq (.seq (.reg l156r1) (.cond (.tmp 6) (.seq (.draw l156r2) .ret) .skip)) (.seq (.reg l156r3) .ret))) [.cell 2 true 3])
theorem l156_eq:lowFn Tryz.prog 156=some l156:=by kernel_rfl
def l157r0:List AOper :=
 [oQ 4 (.mv (.const (.bool false))) []]
def l157r1:List AOper :=
 [oQ 6 (.mv Z0) [],oQ 7 (.len Z6) [0],oQ 8 (.mv Z1) [],oQ 9 (.len Z8) [2],oQ 10 (.bin .neq Z7 Z9) [1,3]]
def l157r2:List AOper :=
 [oQ 4 (.mv (.const (.bool false))) []]
def l157r3:List AOper :=
 [oQ 5 (.mv (.const (.int .i64 0))) []]
def l157r4:List AOper :=
 [oQ 11 (.mv Z5) [],oQ 12 (.mv Z0) [],oQ 13 (.len Z12) [1],oQ 14 (.bin .lss Z11 Z13) [0,2]]
def l157r5a:List AOper :=
 [oQ 17 (.mv Z0) [],oQ 18 (.mv Z5) [],oQ 19 (.idxA 1 Z17 Z18) [0,1],oQ 20 (.load false 1 Z19) [2],oQ 21 (.mv Z1) [],oQ 22 (.mv Z5) [],oQ 23 (.idxA 1 Z21 Z22) [4,5],oQ 24 (.load false 1 Z23) [6]]
def l157r5b:List AOper :=
 [oQ 25 (.bin .neq Z20 Z24) [3,7]]
def l157r5:List AOper:=l157r5a++l157r5b
def l157r6:List AOper :=
 [oQ 4 (.mv (.const (.bool false))) []]
def l157r7:List AOper :=
 [oQ 15 (.mv Z5) [],oQ 16 (.bin .add Z15 (.const (.int .i64 1))) [0],oQ 5 (.mv Z16) [1,0,1]]
def l157r8:List AOper :=
 [oQ 4 (.mv (.const (.bool true))) []]
def l157:AFn :=
 (AFn.mk 26 2 (.seq (.reg l157r0) (.seq (.seq (.reg l157r1) (.cond (.tmp 10) (.seq (.reg l157r2) .ret) .skip)) (.seq (.seq (.reg l157r3) (.block 0 (.loop (.seq (.seq (.reg l157r4) (.cond (.tmp 14) .skip (.exit 0))) (.seq (.block 1 (.seq (.draw l157r5) (.cond (.tmp 25) (.seq (.reg l157r6) .ret) .skip))) (.reg l157r7)))))) (.seq (.reg l157r8) .ret)))) [.tmp 4])
theorem l157_eq:lowFn Tryz.prog 157=some l157:=by kernel_rfl
def l158r0:List AOper :=
 [oQ 2 (.box Z0) [],oQ 3 (.box Z1) [],oQ 4 (.mv (.const (.int .i64 0))) []]
def l158r1a:List AOper :=
 [oQ 5 (.fld 0 Z2) [],oQ 6 (.load false 1 Z5) [0],oQ 7 (.load true 4 Z3) [],oQ 8 (.fld 2 Z2) [],oQ 9 (.load false 1 Z8) [3],oQ 10 (.call 167 [Z7,Z9]) [2,4]]
def l158r1b:List AOper :=
 [oQ 11 (.bin .add Z6 Z10) [1,5],oQ 4 (.mv Z11) (6::5::uQ 7)]
def l158r1:List AOper:=l158r1a++l158r1b
def l158:AFn :=
 (AFn.mk 12 2 (.seq (.reg l158r0) (.seq (.draw l158r1) .ret)) [.tmp 4])
theorem l158_eq:lowFn Tryz.prog 158=some l158:=by kernel_rfl
def l159r0:List AOper :=
 [oQ 4 (.alloc [.int .i64 0,.int .i64 0,.int .i64 0,.int .i64 0]) []]
def l159r1:List AOper :=
 [oQ 5 (.alloc [.int .i64 0,.int .i64 0,.int .i64 0,.int .i64 0]) []]
def l159r2:List AOper :=
 [oQ 7 (.mv Z0) [],oQ 8 (.len Z7) [0],oQ 9 (.bin .sub Z8 (.const (.int .i64 1))) [1],oQ 6 (.mv Z9) [2,0,1,2]]
def l159r3:List AOper :=
 [oQ 10 (.mv Z6) [],oQ 11 (.bin .geq Z10 (.const (.int .i64 0))) [0]]
def l159r4:List AOper :=
 [oQ 14 (.mv Z6) [],oQ 15 (.mv Z1) [],oQ 16 (.mv Z0) [],oQ 17 (.mv Z6) [],oQ 18 (.idxA 1 Z16 Z17) [2,3],oQ 19 (.load false 1 Z18) [4],oQ 20 (.bin .rem Z15 Z19) [1,5],oQ 21 (.idxP 1 4 Z5 Z14) (0::uQ 7),nQ (.store 1 Z21 Z20) (7::6::uQ 7)]
def l159r5:List AOper :=
 [oQ 22 (.mv Z1) [],oQ 23 (.mv Z0) [],oQ 24 (.mv Z6) [],oQ 25 (.idxA 1 Z23 Z24) [1,2],oQ 26 (.load false 1 Z25) [3],oQ 27 (.bin .quo Z22 Z26) [0,4],oQ 1 (.mv Z27) (5::uQ 6)]
def l159r6:List AOper :=
 [oQ 12 (.mv Z6) [],oQ 13 (.bin .sub Z12 (.const (.int .i64 1))) [0],oQ 6 (.mv Z13) [1,0,1]]
def l159r7:List AOper :=
 [oQ 28 (.load true 4 Z5) [],nQ (.store 4 Z4 Z28) [0,0]]
def l159:AFn :=
 (AFn.mk 29 2 (.seq (.reg l159r0) (.seq (.reg l159r1) (.seq (.seq (.reg l159r2) (.block 0 (.loop (.seq (.seq (.reg l159r3) (.cond (.tmp 11) .skip (.exit 0))) (.seq (.block 1 (.seq (.reg l159r4) (.reg l159r5))) (.reg l159r6)))))) (.seq (.reg l159r7) .ret)))) [.cell 4 true 4])
theorem l159_eq:lowFn Tryz.prog 159=some l159:=by kernel_rfl
def l161r0:List AOper :=
 [oQ 4 (.mv (.const (.int .u64 0))) [],oQ 5 (.mv (.const (.int .u64 0))) [0]]
def l161r1:List AOper :=
 [oQ 14 (.mv Z0) [],oQ 15 (.bin .and Z14 (.const (.int .u64 4294967295))) [0],oQ 6 (.mv Z15) [1,0,1]]
def l161r2:List AOper :=
 [oQ 16 (.mv Z0) [],oQ 17 (.bin .shr Z16 (.const (.int .u64 32))) [0],oQ 7 (.mv Z17) [1,0,1]]
def l161r3:List AOper :=
 [oQ 18 (.mv Z1) [],oQ 19 (.bin .and Z18 (.const (.int .u64 4294967295))) [0],oQ 8 (.mv Z19) [1,0,1]]
def l161r4:List AOper :=
 [oQ 20 (.mv Z1) [],oQ 21 (.bin .shr Z20 (.const (.int .u64 32))) [0],oQ 9 (.mv Z21) [1,0,1]]
def l161r5:List AOper :=
 [oQ 22 (.mv Z6) [],oQ 23 (.mv Z8) [],oQ 24 (.bin .mul Z22 Z23) [0,1],oQ 10 (.mv Z24) [2,0,1,2]]
def l161r6:List AOper :=
 [oQ 25 (.mv Z7) [],oQ 26 (.mv Z8) [],oQ 27 (.bin .mul Z25 Z26) [0,1],oQ 28 (.mv Z10) [],oQ 29 (.bin .shr Z28 (.const (.int .u64 32))) [3],oQ 30 (.bin .add Z27 Z29) [2,4],oQ 11 (.mv Z30) (5::uQ 6)]
def l161r7:List AOper :=
 [oQ 31 (.mv Z11) [],oQ 32 (.bin .and Z31 (.const (.int .u64 4294967295))) [0],oQ 12 (.mv Z32) [1,0,1]]
def l161r8:List AOper :=
 [oQ 33 (.mv Z11) [],oQ 34 (.bin .shr Z33 (.const (.int .u64 32))) [0],oQ 13 (.mv Z34) [1,0,1]]
def l161r9:List AOper :=
 [oQ 35 (.mv Z12) [],oQ 36 (.mv Z6) [],oQ 37 (.mv Z9) [],oQ 38 (.bin .mul Z36 Z37) [1,2],oQ 39 (.bin .add Z35 Z38) [0,3],oQ 12 (.mv Z39) (4::uQ 5)]
def l161r10:List AOper :=
 [oQ 40 (.mv Z7) [],oQ 41 (.mv Z9) [],oQ 42 (.bin .mul Z40 Z41) [0,1],oQ 43 (.mv Z13) [],oQ 44 (.bin .add Z42 Z43) [2,3],oQ 45 (.mv Z12) [],oQ 46 (.bin .shr Z45 (.const (.int .u64 32))) [5],oQ 47 (.bin .add Z44 Z46) [4,6],oQ 4 (.mv Z47) (7::uQ 8)]
def l161r11:List AOper :=
 [oQ 48 (.mv Z0) [],oQ 49 (.mv Z1) [],oQ 50 (.bin .mul Z48 Z49) [0,1],oQ 5 (.mv Z50) [2,0,1,2]]
def l161:AFn :=
 (AFn.mk 51 2 (.seq (.reg l161r0) (.seq (.reg l161r1) (.seq (.reg l161r2) (.seq (.reg l161r3) (.seq (.reg l161r4) (.seq (.reg l161r5) (.seq (.reg l161r6) (.seq (.reg l161r7) (.seq (.reg l161r8) (.seq (.reg l161r9) (.seq (.reg l161r10) (.seq (.reg l161r11) .ret)))))))))))) [.tmp 4,.tmp 5])
theorem l161_eq:lowFn Tryz.prog 161=some l161:=by kernel_rfl
def l166r0:List AOper :=
 [oQ 6 (.mv (.const (.int .i64 0))) []]
def l166r1:List AOper :=
 [oQ 7 (.mv (.const (.int .i64 0))) []]
def l166r2:List AOper :=
 [oQ 9 (.mv Z0) [],oQ 8 (.mv Z9) [0,0]]
def l166r3:List AOper :=
 [oQ 10 (.mv Z2) [],oQ 11 (.bin .lss Z10 (.const (.int .i64 0))) [0]]
def l166r4:List AOper :=
 [oQ 7 (.mv (.const (.int .i64 (-1)))) []]
def l166r5:List AOper :=
 [oQ 12 (.mv Z0) [],oQ 13 (.bin .sub Z12 (.const (.int .i64 1))) [0],oQ 8 (.mv Z13) [1,0,1]]
def l166r6:List AOper :=
 [oQ 14 (.mv Z1) [],oQ 15 (.bin .lss Z14 (.const (.int .i64 0))) [0]]
def l166r7:List AOper :=
 [oQ 16 (.mv Z1) [],oQ 17 (.mv Z0) [],oQ 18 (.bin .add Z16 Z17) [0,1],oQ 1 (.mv Z18) [2,0,1,2]]
def l166r8:List AOper :=
 [oQ 19 (.mv Z8) [],oQ 20 (.mv Z7) [],oQ 21 (.mv Z1) [],oQ 22 (.minmax true Z20 Z21) [1,2],oQ 23 (.minmax false Z19 Z22) [0,3],oQ 6 (.mv Z23) (4::uQ 5)]
def l166:AFn :=
 (AFn.mk 24 3 (.seq (.reg l166r0) (.seq (.reg l166r1) (.seq (.reg l166r2) (.seq (.seq (.reg l166r3) (.cond (.tmp 11) (.seq (.reg l166r4) (.reg l166r5)) .skip)) (.seq (.seq (.reg l166r6) (.cond (.tmp 15) (.reg l166r7) .skip)) (.seq (.reg l166r8) .ret)))))) [.tmp 6])
theorem l166_eq:lowFn Tryz.prog 166=some l166:=by kernel_rfl
def l167r0:List AOper :=
 [oQ 2 (.box Z0) [],oQ 4 (.mv (.const (.int .i64 0))) []]
def l167r1:List AOper :=
 [oQ 5 (.mv (.const (.int .i64 0))) []]
def l167r2:List AOper :=
 [oQ 8 (.mv Z1) [],oQ 9 (.len Z8) [0],oQ 10 (.mv (.const (.int .i64 0))) []]
def l167r3:List AOper :=
 [oQ 11 (.bin .lss Z10 Z9) []]
def l167r4:List AOper :=
 [oQ 12 (.mv Z10) [],oQ 13 (.idxA 1 Z8 Z10) [],oQ 14 (.load false 1 Z13) [1],oQ 6 (.mv Z12) [0,0,1,2],oQ 7 (.mv Z14) [2,3,0,1,2,3]]
def l167r5:List AOper :=
 [oQ 15 (.mv Z5) [],oQ 16 (.mv Z6) [],oQ 17 (.idxP 1 4 Z2 Z16) [1],oQ 18 (.load false 1 Z17) [2],oQ 19 (.mv Z7) [],oQ 20 (.bin .mul Z18 Z19) [3,4],oQ 21 (.bin .add Z15 Z20) [0,5],oQ 5 (.mv Z21) (6::uQ 7)]
def l167r6:List AOper :=
 [oQ 22 (.bin .add Z10 (.const (.int .i64 1))) [],oQ 10 (.mv Z22) [0]]
def l167r7:List AOper :=
 [oQ 23 (.mv Z5) [],oQ 4 (.mv Z23) [0,0]]
def l167:AFn :=
 (AFn.mk 24 2 (.seq (.reg l167r0) (.seq (.reg l167r1) (.seq (.seq (.reg l167r2) (.block 0 (.loop (.seq (.reg l167r3) (.seq (.cond (.tmp 11) .skip (.exit 0)) (.seq (.block 1 (.seq (.reg l167r4) (.reg l167r5))) (.reg l167r6))))))) (.seq (.reg l167r7) .ret)))) [.tmp 4])
theorem l167_eq:lowFn Tryz.prog 167=some l167:=by kernel_rfl
attribute [push_cast] l4r0 l4r1 l4r2 l4r3 l4r4 l4r5 l4r6 l4r7 l4r8 l5r0 l5r1 l5r2 l5r3 l5r4 l5r5 l5r6 l5r7 l5r8 l5r9 l5r10 l5r11a l5r11b l5r11 l5r12 l5r13 l5r14 l8r0 l8r1 l8r2 l8r3 l8r4 l11r0 l11r1 l11r2 l11r3 l11r4 l11r5 l11r6a l11r6b l11r6 l17r0 l17r1 l17r2 l17r3a l17r3b l17r3 l18r0 l18r1 l18r2 l18r3 l18r4 l18r5 l18r6 l18r7 l18r8 l18r9 l18r10 l19r0 l19r1 l19r2 l19r3 l19r4 l19r5 l19r6 l19r7 l19r8 l19r9 l19r10 l19r11 l19r12a l19r12b l19r12 l19r13 l19r14 l19r15 l20r0 l20r1 l20r2 l20r3 l20r4 l20r5 l20r6 l20r7 l20r8 l20r9 l20r10 l21r0 l21r1 l21r2 l21r3 l21r4 l24r0 l24r1 l24r2 l24r3 l24r4 l24r5 l24r6 l25r0 l25r1a l25r1b l25r1 l26r0 l26r1 l26r2 l26r3 l26r4 l26r5a l26r5b l26r5 l26r6 l26r7a l26r7b l26r7 l26r8 l27r0 l27r1 l27r2 l27r3 l27r4 l27r5 l27r6 l27r7 l27r8 l30r0 l30r1a l30r1b l30r1 l30r2 l30r3 l30r4 l30r5 l30r6 l30r7 l30r8 l30r9 l31r0 l31r1 l31r2 l31r3 l31r4a l31r4b l31r4 l31r5 l31r6a l31r6b l31r6 l31r7 l31r8a l31r8b l31r8 l31r9 l31r10a l31r10b l31r10 l31r11 l31r12a l31r12b l31r12 l31r13 l31r14a l31r14b l31r14 l31r15 l31r16a l31r16b l31r16 l31r17a l31r17b l31r17 l32r0 l32r1 l32r2 l32r3 l32r4 l32r5a l32r5b l32r5 l32r6 l32r7 l33r0 l33r1 l33r2 l33r3 l33r4 l33r5 l33r6 l33r7a l33r7b l33r7 l33r8 l40r0 l40r1 l40r2 l40r3 l41r0 l41r1 l41r2 l41r3 l41r4 l41r5 l41r6a l41r6b l41r6 l41r7 l41r8 l41r9 l42r0 l42r1 l42r2 l42r3 l42r4 l42r5 l42r6 l42r7 l42r8a l42r8b l42r8 l42r9 l43r0 l43r1 l43r2 l43r3 l43r4 l43r5a l43r5b l43r5 l43r6 l43r7 l43r8 l44r0 l44r1 l45r0 l45r1 l46r0 l46r1 l46r2 l46r3 l48r0 l48r1 l48r2 l48r3 l48r4 l48r5 l48r6 l48r7 l48r8 l48r9 l48r10 l48r11 l48r12 l48r13 l49r0 l49r1 l49r2 l49r3 l50r0 l50r1 l50r2 l50r3 l50r4 l51r0 l51r1 l52r0 l52r1 l52r2 l52r3a l52r3b l52r3 l52r4 l52r5 l52r6 l52r7 l52r8 l52r9 l52r10 l52r11 l54r0 l54r1 l54r2 l54r3 l54r4 l55r0 l55r1 l56r0 l56r1 l57r0 l57r1 l58r0 l58r1 l58r2 l58r3 l58r4 l58r5 l58r6 l59r0 l59r1 l59r2 l59r3 l59r4a l59r4b l59r4 l59r5 l59r6a l59r6b l59r6 l59r7 l59r8a l59r8b l59r8 l59r9 l59r10a l59r10b l59r10 l59r11 l59r12a l59r12b l59r12 l59r13 l59r14a l59r14b l59r14 l59r15 l59r16a l59r16b l59r16 l59r17a l59r17b l59r17 l60r0 l60r1 l60r2 l60r3 l60r4 l60r5 l60r6 l61r0 l61r1 l61r2 l61r3 l61r4 l61r5 l61r6 l61r7 l62r0 l62r1 l62r2 l62r3 l62r4 l62r5 l62r6 l62r7 l63r0 l63r1 l64r0 l64r1a l64r1b l64r1 l66r0 l66r1 l67r0 l67r1a l67r1b l67r1 l67r2 l67r3 l67r4 l67r5 l68r0 l68r1 l68r2 l68r3 l69r0 l69r1 l69r2 l69r3a l69r3b l69r3 l69r4 l69r5 l69r6 l70r0 l70r1 l70r2 l70r3a l70r3b l70r3 l71r0 l71r1 l71r2 l71r3a l71r3b l71r3 l72r0 l72r1a l72r1b l72r1 l72r2 l72r3 l72r4 l72r5 l73r0 l73r1 l74r0 l74r1 l74r2 l74r3 l75r0 l75r1a l75r1b l75r1 l76r0 l76r1 l76r2 l76r3 l76r4 l76r5 l76r6 l77r0 l77r1 l77r2 l77r3a l77r3b l77r3 l79r0 l79r1 l79r2 l79r3 l79r4a l79r4b l79r4 l79r5 l79r6 l80r0 l80r1 l80r2 l80r3 l80r4 l80r5 l80r6 l80r7a l80r7b l80r7 l80r8 l80r9 l81r0 l81r1 l82r0 l82r1 l82r2 l82r3 l82r4 l82r5 l82r6 l82r7 l82r8 l82r9 l82r10 l82r11 l82r12 l82r13 l82r14 l82r15 l82r16 l82r17 l83r0 l83r1 l84r0 l84r1 l84r2 l84r3 l84r4 l84r5 l84r6 l84r7 l87r0 l87r1 l87r2 l87r3 l88r0 l88r1 l88r2 l88r3 l88r4 l88r5 l88r6 l88r7 l88r8 l88r9 l89r0 l89r1 l89r2 l89r3 l89r4 l89r5 l89r6 l89r7 l89r8 l89r9 l90r0 l90r1 l92r0 l92r1 l93r0 l93r1 l94r0 l94r1 l94r2 l94r3 l94r4 l94r5 l94r6 l94r7a l94r7b l94r7 l94r8 l94r9 l95r0 l95r1 l95r2 l95r3 l96r0 l96r1 l96r2 l96r3a l96r3b l96r3 l96r4 l96r5 l96r6 l97r0 l97r1 l97r2 l97r3 l97r4a l97r4b l97r4 l97r5 l98r0 l98r1 l98r2 l98r3a l98r3b l98r3 l98r4 l98r5 l98r6 l98r7 l98r8 l99r0 l99r1 l99r2 l99r3 l99r4 l99r5 l100r0 l100r1 l101r0 l101r1 l101r2 l101r3 l101r4a l101r4b l101r4 l101r5 l101r6 l103r0 l103r1 l103r2 l103r3 l103r4 l103r5 l104r0 l104r1 l104r2 l104r3 l104r4a l104r4b l104r4 l104r5 l105r0 l105r1 l105r2 l105r3a l105r3b l105r3 l105r4 l105r5 l105r6a l105r6b l105r6 l105r7 l106r0 l106r1 l106r2 l106r3a l106r3b l106r3 l107r0 l107r1 l107r2 l107r3a l107r3b l107r3 l109r0 l109r1 l109r2 l109r3 l111r0 l111r1 l111r2 l111r3 l112r0 l112r1 l112r2 l112r3 l112r4 l112r5 l112r6 l112r7 l112r8 l112r9 l113r0 l113r1 l113r2 l113r3 l113r4 l113r5 l113r6 l113r7 l114r0 l114r1 l115r0 l115r1 l115r2 l115r3 l115r4 l115r5 l115r6 l116r0 l116r1 l116r2a l116r2b l116r2 l116r3 l117r0 l117r1 l117r2 l117r3 l118r0 l118r1 l118r2 l118r3 l118r4 l118r5 l118r6 l118r7 l118r8 l118r9 l119r0 l119r1 l119r2 l119r3a l119r3b l119r3 l120r0 l120r1 l120r2 l120r3 l120r4 l120r5 l120r6 l120r7 l121r0 l121r1 l121r2 l121r3 l121r4a l121r4b l121r4 l121r5 l121r6 l122r0 l122r1 l122r2 l122r3 l122r4 l122r5 l122r6 l122r7 l123r0 l123r1 l124r0 l124r1 l125r0 l125r1 l125r2 l125r3 l125r4 l125r5 l125r6 l125r7 l125r8 l125r9 l125r10 l126r0 l126r1 l126r2 l126r3 l126r4 l126r5a l126r5b l126r5 l126r6 l126r7 l127r0 l127r1 l127r2 l127r3 l128r0 l128r1a l128r1b l128r1 l128r2 l128r3 l128r4 l128r5 l128r6 l129r0 l129r1 l129r2 l129r3a l129r3b l129r3 l129r4 l130r0 l130r1 l131r0 l131r1 l131r2a l131r2b l131r2 l131r3 l131r4 l131r5 l131r6 l131r7 l132r0 l132r1 l132r2 l132r3 l132r4 l132r5 l132r6 l132r7 l132r8 l132r9a l132r9b l132r9 l132r10 l133r0 l133r1 l134r0 l134r1a l134r1b l134r1 l134r2 l134r3 l134r4 l134r5a l134r5b l134r5 l134r6 l134r7 l136r0 l136r1 l137r0 l137r1 l138r0 l138r1 l138r2 l138r3 l139r0 l139r1 l139r2a l139r2b l139r2 l139r3 l139r4 l139r5a l139r5b l139r5 l139r6a l139r6b l139r6 l139r7 l139r8 l139r9 l140r0 l140r1 l141r0 l141r1 l142r0 l142r1 l142r2 l142r3 l142r4 l142r5a l142r5b l142r5 l142r6 l142r7 l143r0 l143r1 l144r0 l144r1 l145r0 l145r1 l145r2 l145r3 l146r0 l146r1 l146r2 l146r3 l146r4 l146r5 l146r6 l146r7 l146r8 l147r0 l147r1 l147r2 l147r3 l147r4 l147r5a l147r5b l147r5 l147r6 l147r7 l148r0 l148r1 l148r2 l148r3 l148r4 l149r0 l149r1 l149r2 l150r0 l150r1 l150r2 l150r3 l150r4 l151r0 l151r1 l151r2 l151r3 l151r4 l151r5 l151r6a l151r6b l151r6 l151r7 l151r8 l151r9 l153r0 l153r1 l153r2 l153r3 l153r4 l153r5a l153r5b l153r5 l153r6a l153r6b l153r6 l153r7 l153r8 l153r9 l153r10 l154r0 l154r1 l154r2 l154r3 l154r4 l154r5 l154r6 l154r7 l154r8 l154r9 l154r10 l155r0 l155r1 l155r2 l155r3 l155r4 l155r5 l155r6 l156r0 l156r1 l156r2a l156r2b l156r2 l156r3 l157r0 l157r1 l157r2 l157r3 l157r4 l157r5a l157r5b l157r5 l157r6 l157r7 l157r8 l158r0 l158r1a l158r1b l158r1 l159r0 l159r1 l159r2 l159r3 l159r4 l159r5 l159r6 l159r7 l161r0 l161r1 l161r2 l161r3 l161r4 l161r5 l161r6 l161r7 l161r8 l161r9 l161r10 l161r11 l166r0 l166r1 l166r2 l166r3 l166r4 l166r5 l166r6 l166r7 l166r8 l167r0 l167r1 l167r2 l167r3 l167r4 l167r5 l167r6 l167r7
end Go.Proofs.YtfccepgibbdfaaaGreatDoor
