import Derived.Test.YtapccmfnmiopoaaGreatCW3
import Derived.Test.YtapccmfnmiopoaaGreatProg
import Derived.KernelRfl
set_option maxRecDepth 100000
namespace Go.Proofs.YtapccmfnmiopoaaGreat
open Vw Go
instance globs:Inhabited GlobT:=⟨⟨[]⟩⟩
attribute [push_cast] Bool.false_eq_true List.length_replicate
attribute [bitvec_to_nat] decide_eq_true_eq decide_eq_false_iff_not Bool.not_eq_true' Bool.not_eq_false' Bool.and_eq_true Bool.or_eq_true Bool.and_eq_false_iff Bool.or_eq_false_iff Int.not_le Int.not_lt bne_iff_ne ne_eq beq_iff_eq Bool.not_eq_true Bool.not_eq_false
theorem sd {P:Prop}(h:P:=by first|assumption|rfl|omega|(simp<;>omega)|(simp_all<;>omega)):P:=h
abbrev uQ (n:Nat):List Nat:=List.range n
abbrev oQ (d:Nat)(p:AOp)(a:List Nat):AOper:=⟨some d,p,none,a⟩
abbrev gQ (d:Nat)(p:AOp)(g:Option (Nat×Bool))(a:List Nat):AOper:=⟨some d,p,g,a⟩
abbrev nQ (p:AOp)(a:List Nat):AOper:=⟨none,p,none,a⟩
abbrev Z0:=Operand.tmp 0
abbrev Z1:=Operand.tmp 1
abbrev Z2:=Operand.tmp 2
abbrev Z3:=Operand.tmp 3
abbrev Z4:=Operand.tmp 4
abbrev Z5:=Operand.tmp 5
abbrev Z6:=Operand.tmp 6
abbrev Z7:=Operand.tmp 7
abbrev Z8:=Operand.tmp 8
abbrev Z9:=Operand.tmp 9
abbrev Z10:=Operand.tmp 10
abbrev Z11:=Operand.tmp 11
abbrev Z12:=Operand.tmp 12
abbrev Z13:=Operand.tmp 13
abbrev Z14:=Operand.tmp 14
abbrev Z15:=Operand.tmp 15
abbrev Z16:=Operand.tmp 16
abbrev Z17:=Operand.tmp 17
abbrev Z18:=Operand.tmp 18
abbrev Z19:=Operand.tmp 19
abbrev Z20:=Operand.tmp 20
abbrev Z21:=Operand.tmp 21
abbrev Z22:=Operand.tmp 22
abbrev Z23:=Operand.tmp 23
abbrev Z24:=Operand.tmp 24
abbrev Z25:=Operand.tmp 25
abbrev Z26:=Operand.tmp 26
abbrev Z27:=Operand.tmp 27
abbrev Z28:=Operand.tmp 28
abbrev Z29:=Operand.tmp 29
abbrev Z30:=Operand.tmp 30
abbrev Z31:=Operand.tmp 31
abbrev Z32:=Operand.tmp 32
abbrev Z33:=Operand.tmp 33
abbrev Z34:=Operand.tmp 34
abbrev Z35:=Operand.tmp 35
abbrev Z36:=Operand.tmp 36
abbrev Z37:=Operand.tmp 37
abbrev Z38:=Operand.tmp 38
abbrev Z39:=Operand.tmp 39
abbrev Z40:=Operand.tmp 40
abbrev Z41:=Operand.tmp 41
abbrev Z42:=Operand.tmp 42
abbrev Z43:=Operand.tmp 43
abbrev Z44:=Operand.tmp 44
abbrev Z45:=Operand.tmp 45
abbrev Z46:=Operand.tmp 46
abbrev Z47:=Operand.tmp 47
abbrev Z48:=Operand.tmp 48
abbrev Z49:=Operand.tmp 49
abbrev Z50:=Operand.tmp 50
abbrev Z51:=Operand.tmp 51
abbrev Z52:=Operand.tmp 52
abbrev Z53:=Operand.tmp 53
abbrev Z54:=Operand.tmp 54
abbrev Z55:=Operand.tmp 55
abbrev Z56:=Operand.tmp 56
abbrev Z57:=Operand.tmp 57
abbrev Z58:=Operand.tmp 58
abbrev Z59:=Operand.tmp 59
abbrev Z60:=Operand.tmp 60
abbrev Z61:=Operand.tmp 61
abbrev Z62:=Operand.tmp 62
abbrev Z63:=Operand.tmp 63
abbrev Z64:=Operand.tmp 64
abbrev Z65:=Operand.tmp 65
abbrev Z66:=Operand.tmp 66
abbrev Z67:=Operand.tmp 67
abbrev Z68:=Operand.tmp 68
abbrev Z69:=Operand.tmp 69
abbrev Z70:=Operand.tmp 70
abbrev Z71:=Operand.tmp 71
abbrev Z72:=Operand.tmp 72
abbrev Z73:=Operand.tmp 73
abbrev Z74:=Operand.tmp 74
abbrev Z75:=Operand.tmp 75
abbrev Z76:=Operand.tmp 76
abbrev Z77:=Operand.tmp 77
abbrev Z78:=Operand.tmp 78
abbrev Z79:=Operand.tmp 79
abbrev Z80:=Operand.tmp 80
abbrev Z81:=Operand.tmp 81
abbrev Z82:=Operand.tmp 82
abbrev Z83:=Operand.tmp 83
abbrev Z84:=Operand.tmp 84
abbrev Z85:=Operand.tmp 85
abbrev Z86:=Operand.tmp 86
abbrev Z87:=Operand.tmp 87
abbrev Z88:=Operand.tmp 88
abbrev Z89:=Operand.tmp 89
abbrev Z90:=Operand.tmp 90
abbrev Z91:=Operand.tmp 91
abbrev Z92:=Operand.tmp 92
abbrev Z93:=Operand.tmp 93
abbrev Z94:=Operand.tmp 94
abbrev Z95:=Operand.tmp 95
abbrev Z96:=Operand.tmp 96
abbrev Z97:=Operand.tmp 97
abbrev Z98:=Operand.tmp 98
abbrev Z100:=Operand.tmp 100
abbrev Z101:=Operand.tmp 101
abbrev Z102:=Operand.tmp 102
abbrev Z104:=Operand.tmp 104
abbrev Z105:=Operand.tmp 105
def l3r0:List AOper :=
 [oQ 2 (.mv (.const (.bool false))) []]
def l3r1:List AOper :=
 [oQ 14 (.mv Z0) [],oQ 15 (.len Z14) [0],oQ 16 (.bin .gtr Z15 (.const (.int .i64 1048576))) [1]]
def l3r2:List AOper :=
 [oQ 2 (.mv (.const (.bool true))) []]
def l3r3:List AOper :=
 [oQ 18 (.mv Z0) [],oQ 19 (.call 4 [Z18]) [0],oQ 17 (.mv Z19) [1],oQ 20 (.extract Z17 0) [2],oQ 21 (.extract Z17 1) [2],oQ 4 (.alloc [.int .i64 0,.slice none 0 0,.slice none 0 0]) [],oQ 3 (.mv Z20) [3,1,0,1,2,3,5],nQ (.store 3 Z4 Z21) (5::4::6::uQ 7)]
def l3r4:List AOper :=
 [oQ 23 (.mv Z3) [],oQ 24 (.load true 3 Z4) [],oQ 25 (.call 5 [Z23,Z24]) [0,1],oQ 22 (.mv Z25) [2],oQ 26 (.extract Z22 0) [3],oQ 27 (.extract Z22 1) [3],oQ 5 (.alloc [.slice none 0 0,.slice none 0 0]) [],nQ (.store 2 Z5 Z26) [6,4,2,0,1,2,3,4,6],oQ 6 (.mv Z27) (5::7::uQ 8)]
def l3r5:List AOper :=
 [oQ 29 (.mv Z3) [],oQ 30 (.load true 3 Z4) [],oQ 31 (.call 6 [Z29,Z30]) [0,1],oQ 28 (.mv Z31) [2],oQ 32 (.extract Z28 0) [3],oQ 33 (.extract Z28 1) [3],oQ 7 (.alloc [.slice none 0 0,.slice none 0 0]) [],nQ (.store 2 Z7 Z32) [6,4,2,0,1,2,3,4,6],oQ 8 (.mv Z33) (5::7::uQ 8)]
def l3r6:List AOper :=
 [oQ 34 (.load true 2 Z5) [],oQ 35 (.load true 2 Z7) [],oQ 36 (.call 7 [Z34,Z35]) [0,1],oQ 37 (.un .not Z36) [2],oQ 38 (.mv Z37) [3,2],gQ 39 (.mv Z6) (some (38,false)) [4],gQ 40 (.mv Z8) (some (38,false)) [4],gQ 41 (.binB .neq Z39 Z40) (some (38,false)) [5,6,4],oQ 42 (.pick Z38 (.const (.bool true)) Z41) [4,7],oQ 43 (.mv Z42) [8,4],gQ 44 (.mv Z6) (some (43,false)) [9],gQ 45 (.un .not Z44) (some (43,false)) [10,9],oQ 46 (.pick Z43 (.const (.bool true)) Z45) [9,11]]
def l3r7:List AOper :=
 [oQ 47 (.load true 2 Z5) [],oQ 48 (.load true 2 Z7) [],oQ 49 (.call 7 [Z47,Z48]) [0,1],oQ 50 (.mv Z49) [2,2],gQ 51 (.mv Z6) (some (50,true)) [3],gQ 52 (.mv Z8) (some (50,true)) [3],gQ 53 (.binB .eql Z51 Z52) (some (50,true)) [4,5,3],oQ 54 (.pick Z50 Z53 (.const (.bool false))) [3,6],oQ 2 (.mv Z54) (7::3::uQ 8)]
def l3r8:List AOper :=
 [oQ 55 (.fld 1 Z4) [],oQ 56 (.load false 1 Z55) [0],oQ 57 (.len Z56) [1],oQ 58 (.call 9 [Z57]) [2],oQ 59 (.call 8 [Z58]) [3,3],oQ 9 (.mv Z59) (4::4::uQ 5)]
def l3r9:List AOper :=
 [oQ 61 (.load true 3 Z4) [],oQ 62 (.mv Z9) [],oQ 63 (.call 10 [Z61,Z62]) [0,1],oQ 60 (.mv Z63) [2],oQ 64 (.extract Z60 0) [3],oQ 65 (.extract Z60 1) [3],oQ 10 (.alloc [.int .i64 0,.slice none 0 0,.slice none 0 0]) [],nQ (.store 3 Z10 Z64) [6,4,2,0,1,2,3,4,6],oQ 11 (.mv Z65) (5::7::uQ 8)]
def l3r10:List AOper :=
 [oQ 67 (.mv Z3) [],oQ 68 (.load true 3 Z10) [],oQ 69 (.call 5 [Z67,Z68]) [0,1],oQ 66 (.mv Z69) [2],oQ 70 (.extract Z66 0) [3],oQ 71 (.extract Z66 1) [3],oQ 12 (.alloc [.slice none 0 0,.slice none 0 0]) [],nQ (.store 2 Z12 Z70) [6,4,2,0,1,2,3,4,6],oQ 13 (.mv Z71) (5::7::uQ 8)]
def l3r11a:List AOper :=
 [oQ 72 (.fld 1 Z5) [],oQ 73 (.load false 1 Z72) [0],oQ 74 (.mv Z3) [],oQ 75 (.load true 3 Z4) [],oQ 76 (.call 12 [Z74,Z75]) [2,3],oQ 77 (.call 11 [Z73,Z76]) [1,4,4],oQ 78 (.mv Z77) [5,5],gQ 79 (.fld 0 Z5) (some (78,true)) [6],gQ 80 (.load false 1 Z79) (some (78,true)) [7,6],gQ 81 (.fld 1 Z4) (some (78,true)) [6],gQ 82 (.load false 1 Z81) (some (78,true)) [9,6],gQ 83 (.call 11 [Z80,Z82]) (some (78,true)) [8,10,6,6],oQ 84 (.pick Z78 Z83 (.const (.bool false))) [6,11],oQ 85 (.mv Z84) [12,11],gQ 86 (.mv Z11) (some (85,true)) [13],oQ 87 (.pick Z85 Z86 (.const (.bool false))) [13,14],oQ 88 (.mv Z87) [15,13],gQ 89 (.mv Z13) (some (88,true)) [16],oQ 90 (.pick Z88 Z89 (.const (.bool false))) [16,17],oQ 91 (.mv Z90) [18,16],gQ 92 (.load true 2 Z5) (some (91,true)) [19],gQ 93 (.mv Z9) (some (91,true)) [19],gQ 94 (.call 13 [Z92,Z93]) (some (91,true)) [20,21,19,19],gQ 95 (.load true 2 Z12) (some (91,true)) [19]]
def l3r11b:List AOper :=
 [gQ 96 (.call 7 [Z94,Z95]) (some (91,true)) [22,23,22,19],oQ 97 (.pick Z91 Z96 (.const (.bool false))) [19,24],oQ 2 (.mv Z97) (25::24::uQ 26)]
def l3r11:List AOper:=l3r11a++l3r11b
def l3:AFn :=
 (AFn.mk 98 1 (.seq (.reg l3r0) (.seq (.seq (.reg l3r1) (.cond (.tmp 16) (.seq (.reg l3r2) .ret) .skip)) (.seq (.reg l3r3) (.seq (.reg l3r4) (.seq (.reg l3r5) (.seq (.seq (.reg l3r6) (.cond (.tmp 46) (.seq (.reg l3r7) .ret) .skip)) (.seq (.reg l3r8) (.seq (.reg l3r9) (.seq (.reg l3r10) (.seq (.draw l3r11) .ret)))))))))) [.tmp 2])
theorem l3_eq:lowFn Tryz.prog 3=some l3:=by kernel_rfl
def l4r0:List AOper :=
 [oQ 2 (.mv (.const (.slice none 0 0))) [],oQ 3 (.alloc [.int .i64 0,.slice none 0 0,.slice none 0 0]) []]
def l4r1:List AOper :=
 [oQ 4 (.mv Z0) [],oQ 5 (.call 15 [Z4]) [0],oQ 6 (.call 14 [Z5]) [1,1],oQ 7 (.extract Z6 0) [2],oQ 8 (.extract Z6 1) [2],oQ 2 (.mv Z7) (3::2::uQ 5),nQ (.store 3 Z3 Z8) (4::5::uQ 6)]
def l4:AFn :=
 (AFn.mk 9 1 (.seq (.reg l4r0) (.seq (.reg l4r1) .ret)) [.tmp 2,.cell 3 true 3])
theorem l4_eq:lowFn Tryz.prog 4=some l4:=by kernel_rfl
def l5r0:List AOper :=
 [oQ 3 (.box Z1) [],oQ 4 (.alloc [.slice none 0 0,.slice none 0 0]) [],oQ 5 (.mv (.const (.bool false))) []]
def l5r1:List AOper :=
 [oQ 6 (.mv Z0) [],oQ 7 (.load true 3 Z3) [],oQ 8 (.call 16 [Z6,Z7]) [0,1],oQ 9 (.un .not Z8) [2]]
def l5r2:List AOper :=
 [oQ 10 (.build [.slice none 0 0,.slice none 0 0] []) [],nQ (.store 2 Z4 Z10) [0,0],oQ 5 (.mv (.const (.bool false))) [1,0,1]]
def l5r3a:List AOper :=
 [oQ 11 (.fld 1 Z3) [],oQ 12 (.load false 1 Z11) [0],oQ 13 (.call 17 [Z12]) [1],oQ 14 (.mv Z0) [],oQ 15 (.load true 3 Z3) []]
def l5r3b:List AOper :=
 [oQ 16 (.call 18 [Z14,Z15]) [3,4,2],oQ 17 (.build [.slice none 0 0,.slice none 0 0] [(0,1,Z13),(1,1,Z16)]) [2,5],nQ (.store 2 Z4 Z17) (6::5::uQ 7),oQ 5 (.mv (.const (.bool true))) (7::uQ 8)]
def l5r3:List AOper:=l5r3a++l5r3b
def l5:AFn :=
 (AFn.mk 18 2 (.seq (.reg l5r0) (.seq (.seq (.reg l5r1) (.cond (.tmp 9) (.seq (.reg l5r2) .ret) .skip)) (.seq (.draw l5r3) .ret))) [.cell 4 true 2,.tmp 5])
theorem l5_eq:lowFn Tryz.prog 5=some l5:=by kernel_rfl
def l6r0:List AOper :=
 [oQ 3 (.box Z1) [],oQ 4 (.alloc [.slice none 0 0,.slice none 0 0]) [],oQ 5 (.mv (.const (.bool false))) []]
def l6r1:List AOper :=
 [oQ 6 (.mv Z0) [],oQ 7 (.load true 3 Z3) [],oQ 8 (.call 19 [Z6,Z7]) [0,1],oQ 9 (.un .not Z8) [2]]
def l6r2:List AOper :=
 [oQ 10 (.build [.slice none 0 0,.slice none 0 0] []) [],nQ (.store 2 Z4 Z10) [0,0],oQ 5 (.mv (.const (.bool false))) [1,0,1]]
def l6r3a:List AOper :=
 [oQ 11 (.fld 1 Z3) [],oQ 12 (.load false 1 Z11) [0],oQ 13 (.call 20 [Z12]) [1],oQ 14 (.mv Z0) [],oQ 15 (.load true 3 Z3) []]
def l6r3b:List AOper :=
 [oQ 16 (.call 21 [Z14,Z15]) [3,4,2],oQ 17 (.build [.slice none 0 0,.slice none 0 0] [(0,1,Z13),(1,1,Z16)]) [2,5],nQ (.store 2 Z4 Z17) (6::5::uQ 7),oQ 5 (.mv (.const (.bool true))) (7::uQ 8)]
def l6r3:List AOper:=l6r3a++l6r3b
def l6:AFn :=
 (AFn.mk 18 2 (.seq (.reg l6r0) (.seq (.seq (.reg l6r1) (.cond (.tmp 9) (.seq (.reg l6r2) .ret) .skip)) (.seq (.draw l6r3) .ret))) [.cell 4 true 2,.tmp 5])
theorem l6_eq:lowFn Tryz.prog 6=some l6:=by kernel_rfl
def l7r0:List AOper :=
 [oQ 2 (.box Z0) [],oQ 3 (.box Z1) [],oQ 4 (.mv (.const (.bool false))) []]
def l7r1:List AOper :=
 [oQ 5 (.fld 0 Z2) [],oQ 6 (.load false 1 Z5) [0],oQ 7 (.fld 0 Z3) [],oQ 8 (.load false 1 Z7) [2],oQ 9 (.call 11 [Z6,Z8]) [1,3],oQ 10 (.mv Z9) [4,4],gQ 11 (.fld 1 Z2) (some (10,true)) [5],gQ 12 (.load false 1 Z11) (some (10,true)) [6,5],gQ 13 (.fld 1 Z3) (some (10,true)) [5],gQ 14 (.load false 1 Z13) (some (10,true)) [8,5],gQ 15 (.call 11 [Z12,Z14]) (some (10,true)) [7,9,5,5],oQ 16 (.pick Z10 Z15 (.const (.bool false))) [5,10],oQ 4 (.mv Z16) (11::10::uQ 12)]
def l7:AFn :=
 (AFn.mk 17 2 (.seq (.reg l7r0) (.seq (.reg l7r1) .ret)) [.tmp 4])
theorem l7_eq:lowFn Tryz.prog 7=some l7:=by kernel_rfl
def l8r0:List AOper :=
 [oQ 2 (.mv (.const (.slice none 0 0))) []]
def l8r1:List AOper :=
 [oQ 5 (.bslice 1 [.int .i64 0] [] 0) [],oQ 3 (.mv Z5) [0,0]]
def l8r2:List AOper :=
 [oQ 6 (.mv Z0) [],oQ 7 (.len Z6) [0],oQ 8 (.bin .sub Z7 (.const (.int .i64 1))) [1],oQ 4 (.mv Z8) [2,0,1,2]]
def l8r3:List AOper :=
 [oQ 9 (.mv Z4) [],oQ 10 (.bin .geq Z9 (.const (.int .i64 0))) [0]]
def l8r4:List AOper :=
 [oQ 13 (.mv Z3) [],oQ 14 (.mv Z0) [],oQ 15 (.mv Z4) [],oQ 16 (.idxA 1 Z14 Z15) [1,2],oQ 17 (.load false 1 Z16) [3],oQ 18 (.bslice 1 [.int .i64 0] [(0,Z17)] 1) [4],oQ 19 (.append 1 Z13 Z18) [0,5],oQ 3 (.mv Z19) (6::6::uQ 7)]
def l8r5:List AOper :=
 [oQ 11 (.mv Z4) [],oQ 12 (.bin .sub Z11 (.const (.int .i64 1))) [0],oQ 4 (.mv Z12) [1,0,1]]
def l8r6:List AOper :=
 [oQ 20 (.mv Z3) [],oQ 2 (.mv Z20) [0,0]]
def l8:AFn :=
 (AFn.mk 21 1 (.seq (.reg l8r0) (.seq (.reg l8r1) (.seq (.seq (.reg l8r2) (.block 0 (.loop (.seq (.seq (.reg l8r3) (.cond (.tmp 10) .skip (.exit 0))) (.seq (.block 1 (.reg l8r4)) (.reg l8r5)))))) (.seq (.reg l8r6) .ret)))) [.tmp 2])
theorem l8_eq:lowFn Tryz.prog 8=some l8:=by kernel_rfl
def l9r0:List AOper :=
 [oQ 2 (.mv (.const (.slice none 0 0))) []]
def l9r1:List AOper :=
 [oQ 5 (.bslice 1 [.int .i64 0] [] 0) [],oQ 3 (.mv Z5) [0,0]]
def l9r2:List AOper :=
 [oQ 4 (.mv (.const (.int .i64 0))) []]
def l9r3:List AOper :=
 [oQ 6 (.mv Z4) [],oQ 7 (.mv Z0) [],oQ 8 (.bin .lss Z6 Z7) [0,1]]
def l9r4:List AOper :=
 [oQ 11 (.mv Z3) [],oQ 12 (.mv Z4) [],oQ 13 (.bslice 1 [.int .i64 0] [(0,Z12)] 1) [1],oQ 14 (.append 1 Z11 Z13) [0,2],oQ 3 (.mv Z14) [3,3,0,1,2,3]]
def l9r5:List AOper :=
 [oQ 9 (.mv Z4) [],oQ 10 (.bin .add Z9 (.const (.int .i64 1))) [0],oQ 4 (.mv Z10) [1,0,1]]
def l9r6:List AOper :=
 [oQ 15 (.mv Z3) [],oQ 2 (.mv Z15) [0,0]]
def l9:AFn :=
 (AFn.mk 16 1 (.seq (.reg l9r0) (.seq (.reg l9r1) (.seq (.seq (.reg l9r2) (.block 0 (.loop (.seq (.seq (.reg l9r3) (.cond (.tmp 8) .skip (.exit 0))) (.seq (.block 1 (.reg l9r4)) (.reg l9r5)))))) (.seq (.reg l9r6) .ret)))) [.tmp 2])
theorem l9_eq:lowFn Tryz.prog 9=some l9:=by kernel_rfl
def l10r0:List AOper :=
 [oQ 2 (.box Z0) [],oQ 4 (.alloc [.int .i64 0,.slice none 0 0,.slice none 0 0]) [],oQ 5 (.mv (.const (.bool false))) []]
def l10r1:List AOper :=
 [oQ 9 (.load true 3 Z2) [],oQ 10 (.call 22 [Z9]) [0],oQ 11 (.un .not Z10) [1],oQ 12 (.mv Z11) [2,1],gQ 13 (.mv Z1) (some (12,false)) [3],gQ 14 (.fld 1 Z2) (some (12,false)) [3],gQ 15 (.load false 1 Z14) (some (12,false)) [5,3],gQ 16 (.len Z15) (some (12,false)) [6,3],gQ 17 (.call 23 [Z13,Z16]) (some (12,false)) [4,7,3,3],gQ 18 (.un .not Z17) (some (12,false)) [8,3],oQ 19 (.pick Z12 (.const (.bool true)) Z18) [3,9]]
def l10r2:List AOper :=
 [oQ 20 (.build [.int .i64 0,.slice none 0 0,.slice none 0 0] []) [],nQ (.store 3 Z4 Z20) [0,0],oQ 5 (.mv (.const (.bool false))) [1,0,1]]
def l10r3:List AOper :=
 [oQ 21 (.load true 3 Z2) [],oQ 22 (.call 24 [Z21]) [0],oQ 6 (.alloc [.int .i64 0,.slice none 0 0,.slice none 0 0,.int .i64 0,.int .i64 0,.int .i64 0,.int .i64 0,.slice none 0 0]) [],nQ (.store 8 Z6 Z22) [2,1,1,0,1,2]]
def l10r4:List AOper :=
 [oQ 23 (.mv Z1) [],oQ 24 (.len Z23) [0],oQ 25 (.mv (.const (.int .i64 0))) []]
def l10r5:List AOper :=
 [oQ 26 (.bin .lss Z25 Z24) []]
def l10r6:List AOper :=
 [oQ 27 (.mv Z25) [],oQ 28 (.idxA 1 Z23 Z25) [],oQ 29 (.load false 1 Z28) [1],oQ 7 (.mv Z27) [0,0,1,2],oQ 8 (.mv Z29) [2,3,0,1,2,3]]
def l10r7a:List AOper :=
 [oQ 30 (.fld 7 Z6) [],oQ 31 (.load false 1 Z30) [0],oQ 32 (.mv Z7) [],oQ 33 (.fld 1 Z2) [],oQ 34 (.load false 1 Z33) [3],oQ 35 (.mv Z8) [],oQ 36 (.idxA 1 Z34 Z35) [4,5],oQ 37 (.load false 1 Z36) [6],oQ 38 (.fld 2 Z2) [],oQ 39 (.load false 1 Z38) [8],oQ 40 (.mv Z8) [],oQ 41 (.idxA 1 Z39 Z40) [9,10],oQ 42 (.load false 1 Z41) [11],oQ 43 (.build [.int .i64 0,.int .i64 0] [(0,1,Z37),(1,1,Z42)]) [7,12]]
def l10r7b:List AOper :=
 [oQ 44 (.idxA 2 Z31 Z32) (1::2::uQ 14),nQ (.store 2 Z44 Z43) (14::13::uQ 14)]
def l10r7:List AOper:=l10r7a++l10r7b
def l10r8:List AOper :=
 [oQ 45 (.bin .add Z25 (.const (.int .i64 1))) [],oQ 25 (.mv Z45) [0]]
def l10r9:List AOper :=
 [oQ 46 (.load true 8 Z6) [],oQ 47 (.call 25 [Z46]) [0],nQ (.store 3 Z4 Z47) [1,1,0,1],oQ 5 (.mv (.const (.bool true))) [2,0,1,2]]
def l10:AFn :=
 (AFn.mk 48 2 (.seq (.reg l10r0) (.seq (.seq (.reg l10r1) (.cond (.tmp 19) (.seq (.reg l10r2) .ret) .skip)) (.seq (.reg l10r3) (.seq (.seq (.reg l10r4) (.block 0 (.loop (.seq (.reg l10r5) (.seq (.cond (.tmp 26) .skip (.exit 0)) (.seq (.block 1 (.seq (.reg l10r6) (.draw l10r7))) (.reg l10r8))))))) (.seq (.reg l10r9) .ret))))) [.cell 4 true 3,.tmp 5])
theorem l10_eq:lowFn Tryz.prog 10=some l10:=by kernel_rfl
def l11r0:List AOper :=
 [oQ 4 (.mv (.const (.bool false))) []]
def l11r1:List AOper :=
 [oQ 6 (.mv Z0) [],oQ 7 (.len Z6) [0],oQ 8 (.mv Z1) [],oQ 9 (.len Z8) [2],oQ 10 (.bin .neq Z7 Z9) [1,3]]
def l11r2:List AOper :=
 [oQ 4 (.mv (.const (.bool false))) []]
def l11r3:List AOper :=
 [oQ 5 (.mv (.const (.int .i64 0))) []]
def l11r4:List AOper :=
 [oQ 11 (.mv Z5) [],oQ 12 (.mv Z0) [],oQ 13 (.len Z12) [1],oQ 14 (.bin .lss Z11 Z13) [0,2]]
def l11r5a:List AOper :=
 [oQ 17 (.mv Z0) [],oQ 18 (.mv Z5) [],oQ 19 (.idxA 1 Z17 Z18) [0,1],oQ 20 (.load false 1 Z19) [2],oQ 21 (.mv Z1) [],oQ 22 (.mv Z5) [],oQ 23 (.idxA 1 Z21 Z22) [4,5],oQ 24 (.load false 1 Z23) [6]]
def l11r5b:List AOper :=
 [oQ 25 (.bin .neq Z20 Z24) [3,7]]
def l11r5:List AOper:=l11r5a++l11r5b
def l11r6:List AOper :=
 [oQ 4 (.mv (.const (.bool false))) []]
def l11r7:List AOper :=
 [oQ 15 (.mv Z5) [],oQ 16 (.bin .add Z15 (.const (.int .i64 1))) [0],oQ 5 (.mv Z16) [1,0,1]]
def l11r8:List AOper :=
 [oQ 4 (.mv (.const (.bool true))) []]
def l11:AFn :=
 (AFn.mk 26 2 (.seq (.reg l11r0) (.seq (.seq (.reg l11r1) (.cond (.tmp 10) (.seq (.reg l11r2) .ret) .skip)) (.seq (.seq (.reg l11r3) (.block 0 (.loop (.seq (.seq (.reg l11r4) (.cond (.tmp 14) .skip (.exit 0))) (.seq (.block 1 (.seq (.draw l11r5) (.cond (.tmp 25) (.seq (.reg l11r6) .ret) .skip))) (.reg l11r7)))))) (.seq (.reg l11r8) .ret)))) [.tmp 4])
theorem l11_eq:lowFn Tryz.prog 11=some l11:=by kernel_rfl
def l12r0:List AOper :=
 [oQ 3 (.box Z1) [],oQ 4 (.mv (.const (.slice none 0 0))) []]
def l12r1:List AOper :=
 [oQ 5 (.mv Z0) [],oQ 6 (.load true 3 Z3) [],oQ 7 (.call 16 [Z5,Z6]) [0,1],oQ 8 (.un .not Z7) [2]]
def l12r2:List AOper :=
 [oQ 4 (.mv (.const (.slice none 0 0))) []]
def l12r3:List AOper :=
 [oQ 9 (.mv Z0) [],oQ 10 (.load true 3 Z3) [],oQ 11 (.call 18 [Z9,Z10]) [0,1],oQ 4 (.mv Z11) [2,2,0,1,2]]
def l12:AFn :=
 (AFn.mk 12 2 (.seq (.reg l12r0) (.seq (.seq (.reg l12r1) (.cond (.tmp 8) (.seq (.reg l12r2) .ret) .skip)) (.seq (.reg l12r3) .ret))) [.tmp 4])
theorem l12_eq:lowFn Tryz.prog 12=some l12:=by kernel_rfl
def l13r0:List AOper :=
 [oQ 2 (.box Z0) [],oQ 4 (.alloc [.slice none 0 0,.slice none 0 0]) []]
def l13r1:List AOper :=
 [oQ 8 (.load true 2 Z2) [],oQ 9 (.call 26 [Z8]) [0],oQ 10 (.un .not Z9) [1],oQ 11 (.mv Z10) [2,1],gQ 12 (.mv Z1) (some (11,false)) [3],gQ 13 (.fld 0 Z2) (some (11,false)) [3],gQ 14 (.load false 1 Z13) (some (11,false)) [5,3],gQ 15 (.len Z14) (some (11,false)) [6,3],gQ 16 (.call 23 [Z12,Z15]) (some (11,false)) [4,7,3,3],gQ 17 (.un .not Z16) (some (11,false)) [8,3],oQ 18 (.pick Z11 (.const (.bool true)) Z17) [3,9]]
def l13r2:List AOper :=
 [oQ 19 (.build [.slice none 0 0,.slice none 0 0] []) [],nQ (.store 2 Z4 Z19) [0,0]]
def l13r3:List AOper :=
 [oQ 20 (.fld 0 Z2) [],oQ 21 (.load false 1 Z20) [0],oQ 22 (.len Z21) [1],oQ 23 (.call 27 [.const (.int .i64 0),.const (.int .i64 1),Z22]) [2],oQ 24 (.call 28 [Z23]) [3,3],oQ 5 (.mv Z24) (4::4::uQ 5)]
def l13r4:List AOper :=
 [oQ 26 (.load true 2 Z2) [],oQ 27 (.bslice 2 [.slice none 0 0,.slice none 0 0] [(0,Z26)] 1) [0],oQ 28 (.mv Z5) [],oQ 29 (.bslice 1 [.slice none 0 0] [(0,Z28)] 1) [2],oQ 30 (.mv Z1) [],oQ 31 (.call 29 [Z27,Z29,Z30]) [1,3,4],oQ 25 (.mv Z31) [5],oQ 32 (.extract Z25 0) [6],oQ 33 (.extract Z25 1) [6],oQ 6 (.alloc [.slice none 0 0,.slice none 0 0]) [],nQ (.store 2 Z6 Z32) [9,7,5,0,1,2,3,4,5,6,7,9],oQ 7 (.mv Z33) (8::10::uQ 11)]
def l13r5:List AOper :=
 [oQ 34 (.load true 2 Z6) [],nQ (.store 2 Z4 Z34) [0,0]]
def l13:AFn :=
 (AFn.mk 35 2 (.seq (.reg l13r0) (.seq (.seq (.reg l13r1) (.cond (.tmp 18) (.seq (.reg l13r2) .ret) .skip)) (.seq (.reg l13r3) (.seq (.reg l13r4) (.seq (.reg l13r5) .ret))))) [.cell 4 true 2])
theorem l13_eq:lowFn Tryz.prog 13=some l13:=by kernel_rfl
def l14r0:List AOper :=
 [oQ 2 (.mv (.const (.slice none 0 0))) [],oQ 3 (.alloc [.int .i64 0,.slice none 0 0,.slice none 0 0]) []]
def l14r1:List AOper :=
 [oQ 4 (.mv Z0) [],oQ 5 (.call 30 [Z4]) [0],oQ 6 (.mv Z0) [],oQ 7 (.call 31 [Z6]) [2,1],oQ 2 (.mv Z5) [1,3,0,1],nQ (.store 3 Z3 Z7) (3::4::uQ 5)]
def l14:AFn :=
 (AFn.mk 8 1 (.seq (.reg l14r0) (.seq (.reg l14r1) .ret)) [.tmp 2,.cell 3 true 3])
theorem l14_eq:lowFn Tryz.prog 14=some l14:=by kernel_rfl
def l15r0:List AOper :=
 [oQ 2 (.mv (.const (.pointer none))) []]
def l15r1:List AOper :=
 [oQ 3 (.mv Z0) [],oQ 4 (.len Z3) [0],oQ 5 (.bin .gtr Z4 (.const (.int .i64 2000))) [1]]
def l15r2:List AOper :=
 [oQ 6 (.mv Z0) [],oQ 7 (.slice 1 Z6 none (some (.const (.int .i64 2000)))) [0],oQ 0 (.mv Z7) [1,0,1]]
def l15r3:List AOper :=
 [oQ 8 (.mv Z0) [],oQ 9 (.build [.slice none 0 0,.int .i64 0] [(0,1,Z8)]) [0],oQ 10 (.box Z9) [1],oQ 2 (.mv Z10) [2,0,1,2]]
def l15:AFn :=
 (AFn.mk 11 1 (.seq (.reg l15r0) (.seq (.seq (.reg l15r1) (.cond (.tmp 5) (.reg l15r2) .skip)) (.seq (.reg l15r3) .ret))) [.tmp 2])
theorem l15_eq:lowFn Tryz.prog 15=some l15:=by kernel_rfl
def l16r0:List AOper :=
 [oQ 3 (.box Z1) [],oQ 4 (.mv (.const (.bool false))) []]
def l16r1:List AOper :=
 [oQ 5 (.mv Z0) [],oQ 6 (.call 32 [Z5]) [0],oQ 7 (.mv Z6) [1,1],gQ 8 (.load true 3 Z3) (some (7,true)) [2],gQ 9 (.mv Z0) (some (7,true)) [2],gQ 10 (.len Z9) (some (7,true)) [4,2],gQ 11 (.call 33 [Z8,Z10]) (some (7,true)) [3,5,2,2],oQ 12 (.pick Z7 Z11 (.const (.bool false))) [2,6],oQ 4 (.mv Z12) (7::6::uQ 8)]
def l16:AFn :=
 (AFn.mk 13 2 (.seq (.reg l16r0) (.seq (.reg l16r1) .ret)) [.tmp 4])
theorem l16_eq:lowFn Tryz.prog 16=some l16:=by kernel_rfl
def l17r0:List AOper :=
 [oQ 2 (.mv (.const (.slice none 0 0))) []]
def l17r1:List AOper :=
 [oQ 3 (.mv Z0) [],oQ 4 (.call 34 [Z3]) [0],oQ 2 (.mv Z4) [1,1,0,1]]
def l17:AFn :=
 (AFn.mk 5 1 (.seq (.reg l17r0) (.seq (.reg l17r1) .ret)) [.tmp 2])
theorem l17_eq:lowFn Tryz.prog 17=some l17:=by kernel_rfl
def l18r0:List AOper :=
 [oQ 3 (.box Z1) [],oQ 4 (.mv (.const (.slice none 0 0))) []]
def l18r1a:List AOper :=
 [oQ 9 (.load true 3 Z3) [],oQ 10 (.call 35 [Z9]) [0],oQ 11 (.load true 3 Z3) []]
def l18r1b:List AOper :=
 [oQ 12 (.call 36 [Z11]) [2,1],oQ 5 (.mv Z10) [1,3,0,1],oQ 6 (.mv Z12) (3::4::uQ 5)]
def l18r1:List AOper:=l18r1a++l18r1b
def l18r2:List AOper :=
 [oQ 13 (.mv Z5) [],oQ 14 (.len Z13) [0],oQ 15 (.mkslice 1 [.int .i64 0] Z14 Z14) [1,1],oQ 7 (.mv Z15) [2,0,1,2]]
def l18r3:List AOper :=
 [oQ 8 (.mv (.const (.int .i64 0))) []]
def l18r4:List AOper :=
 [oQ 16 (.mv Z8) [],oQ 17 (.mv Z5) [],oQ 18 (.len Z17) [1],oQ 19 (.bin .lss Z16 Z18) [0,2]]
def l18r5a:List AOper :=
 [oQ 23 (.mv Z7) [],oQ 24 (.mv Z8) [],oQ 25 (.mv Z6) [],oQ 26 (.call 37 [Z23,Z24,Z25]) [0,1,2],oQ 27 (.mv Z0) [],oQ 28 (.mv Z5) [],oQ 29 (.mv Z8) [],oQ 30 (.idxA 1 Z28 Z29) [5,6],oQ 31 (.load false 1 Z30) [7],oQ 32 (.mv Z6) []]
def l18r5b:List AOper :=
 [oQ 33 (.call 37 [Z27,Z31,Z32]) [4,8,9,3],oQ 34 (.cpy 1 Z26 Z33) [3,10,10]]
def l18r5:List AOper:=l18r5a++l18r5b
def l18r6:List AOper :=
 [oQ 20 (.mv Z8) [],oQ 21 (.mv Z6) [],oQ 22 (.bin .add Z20 Z21) [0,1],oQ 8 (.mv Z22) [2,0,1,2]]
def l18r7:List AOper :=
 [oQ 35 (.mv Z7) [],oQ 4 (.mv Z35) [0,0]]
def l18:AFn :=
 (AFn.mk 36 2 (.seq (.reg l18r0) (.seq (.draw l18r1) (.seq (.reg l18r2) (.seq (.seq (.reg l18r3) (.block 0 (.loop (.seq (.seq (.reg l18r4) (.cond (.tmp 19) .skip (.exit 0))) (.seq (.block 1 (.draw l18r5)) (.reg l18r6)))))) (.seq (.reg l18r7) .ret))))) [.tmp 4])
theorem l18_eq:lowFn Tryz.prog 18=some l18:=by kernel_rfl
def l19r0:List AOper :=
 [oQ 3 (.box Z1) [],oQ 4 (.mv (.const (.bool false))) []]
def l19r1:List AOper :=
 [oQ 5 (.mv Z0) [],oQ 6 (.call 38 [Z5]) [0],oQ 7 (.mv Z6) [1,1],gQ 8 (.load true 3 Z3) (some (7,true)) [2],gQ 9 (.call 39 [Z8]) (some (7,true)) [3,2,2],oQ 10 (.pick Z7 Z9 (.const (.bool false))) [2,4],oQ 11 (.mv Z10) [5,4],gQ 12 (.load true 3 Z3) (some (11,true)) [6],gQ 13 (.mv Z0) (some (11,true)) [6],gQ 14 (.len Z13) (some (11,true)) [8,6],gQ 15 (.call 40 [Z12,Z14]) (some (11,true)) [7,9,6,6],oQ 16 (.pick Z11 Z15 (.const (.bool false))) [6,10],oQ 4 (.mv Z16) (11::10::uQ 12)]
def l19:AFn :=
 (AFn.mk 17 2 (.seq (.reg l19r0) (.seq (.reg l19r1) .ret)) [.tmp 4])
theorem l19_eq:lowFn Tryz.prog 19=some l19:=by kernel_rfl
def l20r0:List AOper :=
 [oQ 2 (.mv (.const (.slice none 0 0))) []]
def l20r1:List AOper :=
 [oQ 3 (.bslice 1 [.int .i64 0] [] 0) [],oQ 4 (.mv Z0) [],oQ 5 (.append 1 Z3 Z4) [0,1],oQ 2 (.mv Z5) [2,2,0,1,2]]
def l20:AFn :=
 (AFn.mk 6 1 (.seq (.reg l20r0) (.seq (.reg l20r1) .ret)) [.tmp 2])
theorem l20_eq:lowFn Tryz.prog 20=some l20:=by kernel_rfl
def l21r0:List AOper :=
 [oQ 3 (.box Z1) [],oQ 4 (.mv (.const (.slice none 0 0))) []]
def l21r1:List AOper :=
 [oQ 8 (.bslice 1 [.int .i64 0] [] 0) [],oQ 5 (.mv Z8) [0,0]]
def l21r2:List AOper :=
 [oQ 9 (.load true 3 Z3) [],oQ 10 (.call 41 [Z9]) [0],oQ 6 (.mv Z10) [1,1,0,1]]
def l21r3:List AOper :=
 [oQ 7 (.mv (.const (.int .i64 0))) []]
def l21r4:List AOper :=
 [oQ 11 (.mv Z7) [],oQ 12 (.mv Z6) [],oQ 13 (.len Z12) [1],oQ 14 (.bin .lss Z11 Z13) [0,2]]
def l21r5:List AOper :=
 [oQ 17 (.mv Z5) [],oQ 18 (.mv Z0) [],oQ 19 (.mv Z6) [],oQ 20 (.mv Z7) [],oQ 21 (.idxA 1 Z19 Z20) [2,3],oQ 22 (.load false 1 Z21) [4],oQ 23 (.idxA 1 Z18 Z22) [1,5],oQ 24 (.load false 1 Z23) [6],oQ 25 (.bslice 1 [.int .i64 0] [(0,Z24)] 1) [7],oQ 26 (.append 1 Z17 Z25) [0,8],oQ 5 (.mv Z26) (9::9::uQ 10)]
def l21r6:List AOper :=
 [oQ 15 (.mv Z7) [],oQ 16 (.bin .add Z15 (.const (.int .i64 1))) [0],oQ 7 (.mv Z16) [1,0,1]]
def l21r7:List AOper :=
 [oQ 27 (.mv Z5) [],oQ 4 (.mv Z27) [0,0]]
def l21:AFn :=
 (AFn.mk 28 2 (.seq (.reg l21r0) (.seq (.reg l21r1) (.seq (.reg l21r2) (.seq (.seq (.reg l21r3) (.block 0 (.loop (.seq (.seq (.reg l21r4) (.cond (.tmp 14) .skip (.exit 0))) (.seq (.block 1 (.reg l21r5)) (.reg l21r6)))))) (.seq (.reg l21r7) .ret))))) [.tmp 4])
theorem l21_eq:lowFn Tryz.prog 21=some l21:=by kernel_rfl
def l22r0:List AOper :=
 [oQ 1 (.box Z0) [],oQ 2 (.mv (.const (.bool false))) []]
def l22r1:List AOper :=
 [oQ 5 (.fld 1 Z1) [],oQ 6 (.load false 1 Z5) [0],oQ 7 (.call 42 [Z6]) [1],oQ 8 (.un .not Z7) [2],oQ 9 (.mv Z8) [3,2],gQ 10 (.fld 2 Z1) (some (9,false)) [4],gQ 11 (.load false 1 Z10) (some (9,false)) [5,4],gQ 12 (.fld 1 Z1) (some (9,false)) [4],gQ 13 (.load false 1 Z12) (some (9,false)) [7,4],gQ 14 (.len Z13) (some (9,false)) [8,4],gQ 15 (.call 43 [Z11,Z14]) (some (9,false)) [6,9,4,4],gQ 16 (.un .not Z15) (some (9,false)) [10,4],oQ 17 (.pick Z9 (.const (.bool true)) Z16) [4,11],oQ 18 (.mv Z17) [12,10],gQ 19 (.fld 0 Z1) (some (18,false)) [13],gQ 20 (.load false 1 Z19) (some (18,false)) [14,13],gQ 21 (.call 44 [Z20,.const (.int .i64 60)]) (some (18,false)) [15,13,13],gQ 22 (.un .not Z21) (some (18,false)) [16,13],oQ 23 (.pick Z18 (.const (.bool true)) Z22) [13,17]]
def l22r2:List AOper :=
 [oQ 2 (.mv (.const (.bool false))) []]
def l22r3:List AOper :=
 [oQ 25 (.load true 3 Z1) [],oQ 26 (.call 45 [Z25]) [0],oQ 24 (.mv Z26) [1],oQ 27 (.extract Z24 0) [2],oQ 28 (.extract Z24 1) [2],oQ 3 (.mv Z27) [3,1,0,1,2,3],oQ 4 (.mv Z28) (4::5::uQ 6)]
def l22r4:List AOper :=
 [oQ 29 (.load true 3 Z1) [],oQ 30 (.call 46 [Z29]) [0],oQ 31 (.bin .eql Z30 (.const (.int .i64 0))) [1],oQ 32 (.mv Z31) [2,1],gQ 33 (.mv Z3) (some (32,false)) [3],gQ 34 (.bin .geq Z33 (.const (.int .i64 0))) (some (32,false)) [4,3],gQ 35 (.mv Z34) (some (32,false)) [5,3,3],gQ 36 (.mv Z4) (some (35,true)) [6],gQ 37 (.bin .lss Z36 (.const (.int .i64 60))) (some (35,true)) [7,6],gQ 38 (.pick Z35 Z37 (.const (.bool false))) (some (32,false)) [6,8,3],oQ 39 (.pick Z32 (.const (.bool true)) Z38) [3,9],oQ 2 (.mv Z39) (10::6::uQ 11)]
def l22:AFn :=
 (AFn.mk 40 1 (.seq (.reg l22r0) (.seq (.seq (.reg l22r1) (.cond (.tmp 23) (.seq (.reg l22r2) .ret) .skip)) (.seq (.reg l22r3) (.seq (.reg l22r4) .ret)))) [.tmp 2])
theorem l22_eq:lowFn Tryz.prog 22=some l22:=by kernel_rfl
def l23r0:List AOper :=
 [oQ 4 (.mv (.const (.bool false))) []]
def l23r1:List AOper :=
 [oQ 6 (.mv Z0) [],oQ 7 (.len Z6) [0],oQ 8 (.mv Z1) [],oQ 9 (.bin .neq Z7 Z8) [1,2]]
def l23r2:List AOper :=
 [oQ 4 (.mv (.const (.bool false))) []]
def l23r3:List AOper :=
 [oQ 10 (.mv Z1) [],oQ 11 (.mv (.const (.int .i64 0))) []]
def l23r4:List AOper :=
 [oQ 12 (.bin .lss Z11 Z10) []]
def l23r5:List AOper :=
 [oQ 13 (.mv Z11) [],oQ 5 (.mv Z13) [0,0]]
def l23r6:List AOper :=
 [oQ 14 (.mv Z0) [],oQ 15 (.mv Z5) [],oQ 16 (.call 47 [Z14,Z15]) [0,1],oQ 17 (.un .not Z16) [2]]
def l23r7:List AOper :=
 [oQ 4 (.mv (.const (.bool false))) []]
def l23r8:List AOper :=
 [oQ 18 (.bin .add Z11 (.const (.int .i64 1))) [],oQ 11 (.mv Z18) [0]]
def l23r9:List AOper :=
 [oQ 4 (.mv (.const (.bool true))) []]
def l23:AFn :=
 (AFn.mk 19 2 (.seq (.reg l23r0) (.seq (.seq (.reg l23r1) (.cond (.tmp 9) (.seq (.reg l23r2) .ret) .skip)) (.seq (.seq (.reg l23r3) (.block 0 (.loop (.seq (.reg l23r4) (.seq (.cond (.tmp 12) .skip (.exit 0)) (.seq (.block 1 (.seq (.reg l23r5) (.seq (.reg l23r6) (.cond (.tmp 17) (.seq (.reg l23r7) .ret) .skip)))) (.reg l23r8))))))) (.seq (.reg l23r9) .ret)))) [.tmp 4])
theorem l23_eq:lowFn Tryz.prog 23=some l23:=by kernel_rfl
def l24r0:List AOper :=
 [oQ 1 (.box Z0) [],oQ 2 (.alloc [.int .i64 0,.slice none 0 0,.slice none 0 0,.int .i64 0,.int .i64 0,.int .i64 0,.int .i64 0,.slice none 0 0]) []]
def l24r1:List AOper :=
 [oQ 6 (.load true 3 Z1) [],oQ 7 (.build [.int .i64 0,.slice none 0 0,.slice none 0 0,.int .i64 0,.int .i64 0,.int .i64 0,.int .i64 0,.slice none 0 0] [(0,3,Z6)]) [0],oQ 3 (.alloc [.int .i64 0,.slice none 0 0,.slice none 0 0,.int .i64 0,.int .i64 0,.int .i64 0,.int .i64 0,.slice none 0 0]) [],nQ (.store 8 Z3 Z7) [2,1,0,1,2]]
def l24r2:List AOper :=
 [oQ 8 (.fld 1 Z1) [],oQ 9 (.load false 1 Z8) [0],oQ 10 (.len Z9) [1],oQ 11 (.mv (.const (.int .i64 0))) []]
def l24r3:List AOper :=
 [oQ 12 (.bin .lss Z11 Z10) []]
def l24r4:List AOper :=
 [oQ 13 (.mv Z11) [],oQ 14 (.idxA 1 Z9 Z11) [],oQ 15 (.load false 1 Z14) [1],oQ 4 (.mv Z13) [0,0,1,2],oQ 5 (.mv Z15) [2,3,0,1,2,3]]
def l24r5a:List AOper :=
 [oQ 16 (.fld 7 Z3) [],oQ 17 (.load false 1 Z16) [0],oQ 18 (.mv Z5) [],oQ 19 (.fld 2 Z1) [],oQ 20 (.load false 1 Z19) [3],oQ 21 (.mv Z4) [],oQ 22 (.idxA 1 Z20 Z21) [4,5],oQ 23 (.load false 1 Z22) [6],oQ 24 (.build [.int .i64 0,.int .i64 0] [(0,1,Z18),(1,1,Z23)]) [2,7],oQ 25 (.bslice 2 [.int .i64 0,.int .i64 0] [(0,Z24)] 1) [8]]
def l24r5b:List AOper :=
 [oQ 26 (.append 2 Z17 Z25) [1,9],oQ 27 (.fld 7 Z3) (uQ 11),nQ (.store 1 Z27 Z26) (11::10::10::uQ 11)]
def l24r5:List AOper:=l24r5a++l24r5b
def l24r6:List AOper :=
 [oQ 28 (.bin .add Z11 (.const (.int .i64 1))) [],oQ 11 (.mv Z28) [0]]
def l24r7:List AOper :=
 [oQ 29 (.load true 8 Z3) [],nQ (.store 8 Z2 Z29) [0,0]]
def l24:AFn :=
 (AFn.mk 30 1 (.seq (.reg l24r0) (.seq (.reg l24r1) (.seq (.seq (.reg l24r2) (.block 0 (.loop (.seq (.reg l24r3) (.seq (.cond (.tmp 12) .skip (.exit 0)) (.seq (.block 1 (.seq (.reg l24r4) (.draw l24r5))) (.reg l24r6))))))) (.seq (.reg l24r7) .ret)))) [.cell 2 true 8])
theorem l24_eq:lowFn Tryz.prog 24=some l24:=by kernel_rfl
def l25r0:List AOper :=
 [oQ 1 (.box Z0) [],oQ 2 (.alloc [.int .i64 0,.slice none 0 0,.slice none 0 0]) []]
def l25r1:List AOper :=
 [oQ 6 (.fld 0 Z1) [],oQ 7 (.load true 3 Z6) [0],oQ 8 (.fld 3 Z1) [],oQ 9 (.load true 4 Z8) [2],oQ 10 (.call 48 [Z7,Z9]) [1,3],oQ 11 (.build [.int .i64 0,.slice none 0 0,.slice none 0 0] [(0,1,Z10)]) [4],oQ 3 (.alloc [.int .i64 0,.slice none 0 0,.slice none 0 0]) [],nQ (.store 3 Z3 Z11) (6::5::4::uQ 7)]
def l25r2:List AOper :=
 [oQ 12 (.fld 7 Z1) [],oQ 13 (.load false 1 Z12) [0],oQ 14 (.len Z13) [1],oQ 15 (.mv (.const (.int .i64 0))) []]
def l25r3:List AOper :=
 [oQ 16 (.bin .lss Z15 Z14) []]
def l25r4:List AOper :=
 [oQ 17 (.idxA 2 Z13 Z15) [],oQ 18 (.load true 2 Z17) [0],oQ 5 (.alloc [.int .i64 0,.int .i64 0]) [],nQ (.store 2 Z5 Z18) [2,1,0,1,2]]
def l25r5:List AOper :=
 [oQ 19 (.fld 1 Z3) [],oQ 20 (.load false 1 Z19) [0],oQ 21 (.fld 0 Z5) [],oQ 22 (.load false 1 Z21) [2],oQ 23 (.bslice 1 [.int .i64 0] [(0,Z22)] 1) [3],oQ 24 (.append 1 Z20 Z23) [1,4],oQ 25 (.fld 1 Z3) (uQ 6),nQ (.store 1 Z25 Z24) (6::5::5::uQ 6)]
def l25r6:List AOper :=
 [oQ 26 (.fld 2 Z3) [],oQ 27 (.load false 1 Z26) [0],oQ 28 (.fld 1 Z5) [],oQ 29 (.load false 1 Z28) [2],oQ 30 (.bslice 1 [.int .i64 0] [(0,Z29)] 1) [3],oQ 31 (.append 1 Z27 Z30) [1,4],oQ 32 (.fld 2 Z3) (uQ 6),nQ (.store 1 Z32 Z31) (6::5::5::uQ 6)]
def l25r7:List AOper :=
 [oQ 33 (.bin .add Z15 (.const (.int .i64 1))) [],oQ 15 (.mv Z33) [0]]
def l25r8:List AOper :=
 [oQ 34 (.load true 3 Z3) [],nQ (.store 3 Z2 Z34) [0,0]]
def l25:AFn :=
 (AFn.mk 35 1 (.seq (.reg l25r0) (.seq (.reg l25r1) (.seq (.seq (.reg l25r2) (.block 0 (.loop (.seq (.reg l25r3) (.seq (.cond (.tmp 16) .skip (.exit 0)) (.seq (.block 1 (.seq (.reg l25r4) (.seq (.reg l25r5) (.reg l25r6)))) (.reg l25r7))))))) (.seq (.reg l25r8) .ret)))) [.cell 2 true 3])
theorem l25_eq:lowFn Tryz.prog 25=some l25:=by kernel_rfl
def l26r0:List AOper :=
 [oQ 1 (.box Z0) [],oQ 2 (.mv (.const (.bool false))) []]
def l26r1a:List AOper :=
 [oQ 5 (.fld 0 Z1) [],oQ 6 (.load false 1 Z5) [0],oQ 7 (.call 42 [Z6]) [1],oQ 8 (.un .not Z7) [2],oQ 9 (.mv Z8) [3,2],gQ 10 (.fld 1 Z1) (some (9,false)) [4],gQ 11 (.load false 1 Z10) (some (9,false)) [5,4],gQ 12 (.len Z11) (some (9,false)) [6,4],gQ 13 (.fld 0 Z1) (some (9,false)) [4],gQ 14 (.load false 1 Z13) (some (9,false)) [8,4],gQ 15 (.call 49 [Z14]) (some (9,false)) [9,4,4]]
def l26r1b:List AOper :=
 [gQ 16 (.bin .neq Z12 Z15) (some (9,false)) [7,10,4],oQ 17 (.pick Z9 (.const (.bool true)) Z16) [4,11]]
def l26r1:List AOper:=l26r1a++l26r1b
def l26r2:List AOper :=
 [oQ 2 (.mv (.const (.bool false))) []]
def l26r3:List AOper :=
 [oQ 18 (.fld 1 Z1) [],oQ 19 (.load false 1 Z18) [0],oQ 20 (.len Z19) [1],oQ 21 (.mv (.const (.int .i64 0))) []]
def l26r4:List AOper :=
 [oQ 22 (.bin .lss Z21 Z20) []]
def l26r5:List AOper :=
 [oQ 23 (.idxA 1 Z19 Z21) [],oQ 24 (.load false 1 Z23) [0],oQ 4 (.mv Z24) [1,0,1]]
def l26r6:List AOper :=
 [oQ 25 (.mv Z4) [],oQ 26 (.call 50 [Z25,.const (.int .i64 1000000)]) [0],oQ 27 (.un .not Z26) [1]]
def l26r7:List AOper :=
 [oQ 2 (.mv (.const (.bool false))) []]
def l26r8:List AOper :=
 [oQ 28 (.bin .add Z21 (.const (.int .i64 1))) [],oQ 21 (.mv Z28) [0]]
def l26r9:List AOper :=
 [oQ 2 (.mv (.const (.bool true))) []]
def l26:AFn :=
 (AFn.mk 29 1 (.seq (.reg l26r0) (.seq (.seq (.draw l26r1) (.cond (.tmp 17) (.seq (.reg l26r2) .ret) .skip)) (.seq (.seq (.reg l26r3) (.block 0 (.loop (.seq (.reg l26r4) (.seq (.cond (.tmp 22) .skip (.exit 0)) (.seq (.block 1 (.seq (.reg l26r5) (.seq (.reg l26r6) (.cond (.tmp 27) (.seq (.reg l26r7) .ret) .skip)))) (.reg l26r8))))))) (.seq (.reg l26r9) .ret)))) [.tmp 2])
theorem l26_eq:lowFn Tryz.prog 26=some l26:=by kernel_rfl
def l27r0:List AOper :=
 [oQ 6 (.alloc [.int .i64 0,.int .i64 0,.int .i64 0]) []]
def l27r1:List AOper :=
 [oQ 8 (.mv Z2) [],oQ 9 (.bin .lss Z8 (.const (.int .i64 1))) [0]]
def l27r2:List AOper :=
 [oQ 10 (.build [.int .i64 0,.int .i64 0,.int .i64 0] [(0,1,.const (.int .i64 0)),(1,1,.const (.int .i64 0)),(2,1,.const (.int .i64 1))]) [],nQ (.store 3 Z6 Z10) [0,0]]
def l27r3:List AOper :=
 [oQ 11 (.mv Z2) [],oQ 12 (.bin .eql Z11 (.const (.int .i64 1))) [0]]
def l27r4:List AOper :=
 [oQ 13 (.mv Z0) [],oQ 14 (.mv Z0) [],oQ 15 (.bin .add Z14 (.const (.int .i64 1))) [1],oQ 16 (.build [.int .i64 0,.int .i64 0,.int .i64 0] [(0,1,Z13),(1,1,Z15),(2,1,.const (.int .i64 1))]) [0,2],nQ (.store 3 Z6 Z16) [3,0,1,2,3]]
def l27r5:List AOper :=
 [oQ 17 (.mv Z0) [],oQ 18 (.mv Z2) [],oQ 19 (.bin .sub Z18 (.const (.int .i64 1))) [1],oQ 20 (.mv Z1) [],oQ 21 (.bin .mul Z19 Z20) [2,3],oQ 22 (.bin .add Z17 Z21) [0,4],oQ 7 (.mv Z22) (5::uQ 6)]
def l27r6:List AOper :=
 [oQ 23 (.mv Z1) [],oQ 24 (.bin .lss Z23 (.const (.int .i64 0))) [0]]
def l27r7:List AOper :=
 [oQ 25 (.mv Z0) [],oQ 26 (.mv Z7) [],oQ 27 (.bin .sub Z26 (.const (.int .i64 1))) [1],oQ 28 (.mv Z1) [],oQ 29 (.build [.int .i64 0,.int .i64 0,.int .i64 0] [(0,1,Z25),(1,1,Z27),(2,1,Z28)]) [0,2,3],nQ (.store 3 Z6 Z29) (4::uQ 5)]
def l27r8:List AOper :=
 [oQ 30 (.mv Z0) [],oQ 31 (.mv Z7) [],oQ 32 (.bin .add Z31 (.const (.int .i64 1))) [1],oQ 33 (.mv Z1) [],oQ 34 (.build [.int .i64 0,.int .i64 0,.int .i64 0] [(0,1,Z30),(1,1,Z32),(2,1,Z33)]) [0,2,3],nQ (.store 3 Z6 Z34) (4::uQ 5)]
def l27:AFn :=
 (AFn.mk 35 3 (.seq (.reg l27r0) (.seq (.seq (.reg l27r1) (.cond (.tmp 9) (.seq (.reg l27r2) .ret) .skip)) (.seq (.seq (.reg l27r3) (.cond (.tmp 12) (.seq (.reg l27r4) .ret) .skip)) (.seq (.reg l27r5) (.seq (.seq (.reg l27r6) (.cond (.tmp 24) (.seq (.reg l27r7) .ret) .skip)) (.seq (.reg l27r8) .ret)))))) [.cell 6 true 3])
theorem l27_eq:lowFn Tryz.prog 27=some l27:=by kernel_rfl
def l28r0:List AOper :=
 [oQ 1 (.box Z0) [],oQ 2 (.mv (.const (.slice none 0 0))) []]
def l28r1:List AOper :=
 [oQ 5 (.load true 3 Z1) [],oQ 6 (.call 51 [Z5]) [0],oQ 7 (.mkslice 1 [.int .i64 0] Z6 Z6) [1,1],oQ 3 (.mv Z7) [2,1,0,1,2]]
def l28r2:List AOper :=
 [oQ 8 (.mv Z3) [],oQ 9 (.len Z8) [0],oQ 10 (.mv (.const (.int .i64 0))) []]
def l28r3:List AOper :=
 [oQ 11 (.bin .lss Z10 Z9) []]
def l28r4:List AOper :=
 [oQ 12 (.mv Z10) [],oQ 4 (.mv Z12) [0,0]]
def l28r5:List AOper :=
 [oQ 13 (.mv Z3) [],oQ 14 (.mv Z4) [],oQ 15 (.load true 3 Z1) [],oQ 16 (.mv Z4) [],oQ 17 (.call 52 [Z15,Z16]) [2,3],oQ 18 (.idxA 1 Z13 Z14) (0::1::uQ 5),nQ (.store 1 Z18 Z17) (5::4::4::uQ 5)]
def l28r6:List AOper :=
 [oQ 19 (.bin .add Z10 (.const (.int .i64 1))) [],oQ 10 (.mv Z19) [0]]
def l28r7:List AOper :=
 [oQ 20 (.mv Z3) [],oQ 2 (.mv Z20) [0,0]]
def l28:AFn :=
 (AFn.mk 21 1 (.seq (.reg l28r0) (.seq (.reg l28r1) (.seq (.seq (.reg l28r2) (.block 0 (.loop (.seq (.reg l28r3) (.seq (.cond (.tmp 11) .skip (.exit 0)) (.seq (.block 1 (.seq (.reg l28r4) (.reg l28r5))) (.reg l28r6))))))) (.seq (.reg l28r7) .ret)))) [.tmp 2])
theorem l28_eq:lowFn Tryz.prog 28=some l28:=by kernel_rfl
def l29r0:List AOper :=
 [oQ 6 (.alloc [.slice none 0 0,.slice none 0 0]) [],oQ 7 (.mv (.const (.bool false))) []]
def l29r1:List AOper :=
 [oQ 12 (.mv Z0) [],oQ 13 (.mv Z1) [],oQ 14 (.mv Z2) [],oQ 15 (.call 53 [Z12,Z13,Z14]) [0,1,2],oQ 11 (.mv Z15) [3],oQ 16 (.extract Z11 0) [4],oQ 17 (.extract Z11 1) [4],oQ 8 (.alloc [.int .i64 0,.int .i64 0,.int .i64 0,.int .i64 0,.int .i64 0]) [],nQ (.store 5 Z8 Z16) [7,5,3,0,1,2,3,4,5,7],oQ 9 (.mv Z17) (6::8::uQ 9)]
def l29r2:List AOper :=
 [oQ 18 (.mv Z9) [],oQ 19 (.un .not Z18) [0],oQ 20 (.mv Z19) [1],gQ 21 (.mv Z2) (some (20,false)) [2],gQ 22 (.bslice 1 [.slice none 0 0] [(0,Z21)] 1) (some (20,false)) [3,2],gQ 23 (.call 54 [Z22]) (some (20,false)) [4,2,2],gQ 24 (.len Z23) (some (20,false)) [5,2],gQ 25 (.mv Z2) (some (20,false)) [2],gQ 26 (.len Z25) (some (20,false)) [7,2],gQ 27 (.bin .lss Z24 Z26) (some (20,false)) [6,8,2],oQ 28 (.pick Z20 (.const (.bool true)) Z27) [2,9],oQ 29 (.mv Z28) [10,5],gQ 30 (.load true 5 Z8) (some (29,false)) [11],gQ 31 (.mv Z1) (some (29,false)) [11],gQ 32 (.call 55 [Z30,Z31]) (some (29,false)) [12,13,11,11],gQ 33 (.bin .gtr Z32 (.const (.int .i64 4000))) (some (29,false)) [14,11],oQ 34 (.pick Z29 (.const (.bool true)) Z33) [11,15]]
def l29r3:List AOper :=
 [oQ 35 (.build [.slice none 0 0,.slice none 0 0] []) [],nQ (.store 2 Z6 Z35) [0,0],oQ 7 (.mv (.const (.bool false))) [1,0,1]]
def l29r4:List AOper :=
 [oQ 36 (.load true 5 Z8) [],oQ 37 (.mv Z2) [],oQ 38 (.call 56 [Z36,Z37]) [0,1],oQ 39 (.build [.slice none 0 0,.slice none 0 0] [(0,1,Z38)]) [2],oQ 10 (.alloc [.slice none 0 0,.slice none 0 0]) [],nQ (.store 2 Z10 Z39) (4::3::2::uQ 5)]
def l29r5:List AOper :=
 [oQ 40 (.fld 0 Z10) [],oQ 41 (.load false 1 Z40) [0],oQ 42 (.call 42 [Z41]) [1],oQ 43 (.un .not Z42) [2]]
def l29r6:List AOper :=
 [oQ 44 (.build [.slice none 0 0,.slice none 0 0] []) [],nQ (.store 2 Z6 Z44) [0,0],oQ 7 (.mv (.const (.bool false))) [1,0,1]]
def l29r7:List AOper :=
 [oQ 45 (.load true 5 Z8) [],oQ 46 (.mv Z0) [],oQ 47 (.mv Z1) [],oQ 48 (.mv Z2) [],oQ 49 (.call 57 [Z45,Z46,Z47,Z48]) [0,1,2,3],oQ 50 (.fld 1 Z10) (uQ 5),nQ (.store 1 Z50 Z49) (5::4::4::uQ 5)]
def l29r8:List AOper :=
 [oQ 51 (.load true 2 Z10) [],oQ 52 (.call 26 [Z51]) [0],oQ 53 (.un .not Z52) [1]]
def l29r9:List AOper :=
 [oQ 54 (.build [.slice none 0 0,.slice none 0 0] []) [],nQ (.store 2 Z6 Z54) [0,0],oQ 7 (.mv (.const (.bool false))) [1,0,1]]
def l29r10:List AOper :=
 [oQ 55 (.load true 2 Z10) [],nQ (.store 2 Z6 Z55) [0,0],oQ 7 (.mv (.const (.bool true))) [1,0,1]]
def l29:AFn :=
 (AFn.mk 56 3 (.seq (.reg l29r0) (.seq (.reg l29r1) (.seq (.seq (.reg l29r2) (.cond (.tmp 34) (.seq (.reg l29r3) .ret) .skip)) (.seq (.reg l29r4) (.seq (.seq (.reg l29r5) (.cond (.tmp 43) (.seq (.reg l29r6) .ret) .skip)) (.seq (.reg l29r7) (.seq (.seq (.reg l29r8) (.cond (.tmp 53) (.seq (.reg l29r9) .ret) .skip)) (.seq (.reg l29r10) .ret)))))))) [.cell 6 true 2,.tmp 7])
theorem l29_eq:lowFn Tryz.prog 29=some l29:=by kernel_rfl
def l30r0:List AOper :=
 [oQ 2 (.mv (.const (.slice none 0 0))) []]
def l30r1:List AOper :=
 [oQ 5 (.bslice 1 [.int .i64 0] [] 0) [],oQ 3 (.mv Z5) [0,0]]
def l30r2:List AOper :=
 [oQ 6 (.mv Z0) [],oQ 7 (.bslice 1 [.int .i64 0] [(0,.const (.int .i64 20)),(1,.const (.int .i64 30)),(2,.const (.int .i64 16)),(3,.const (.int .i64 60)),(4,.const (.int .i64 12)),(5,.const (.int .i64 5))] 6) [],oQ 8 (.call 58 [Z6,Z7]) [0,1],oQ 4 (.mv Z8) [2,2,0,1,2]]
def l30r3:List AOper :=
 [oQ 9 (.mv Z4) [],oQ 10 (.bin .gtr Z9 (.const (.int .i64 0))) [0]]
def l30r4:List AOper :=
 [oQ 13 (.mv Z3) [],oQ 14 (.mv Z0) [],oQ 15 (.call 59 [Z14,.const (.int .i64 256)]) [1],oQ 16 (.bslice 1 [.int .i64 0] [(0,Z15)] 1) [2],oQ 17 (.append 1 Z13 Z16) [0,3,2],oQ 3 (.mv Z17) (4::4::uQ 5)]
def l30r5:List AOper :=
 [oQ 11 (.mv Z4) [],oQ 12 (.bin .sub Z11 (.const (.int .i64 1))) [0],oQ 4 (.mv Z12) [1,0,1]]
def l30r6:List AOper :=
 [oQ 18 (.mv Z0) [],oQ 19 (.call 59 [Z18,.const (.int .i64 24)]) [0],oQ 20 (.bin .eql Z19 (.const (.int .i64 0))) [1]]
def l30r7:List AOper :=
 [oQ 21 (.mv Z3) [],oQ 22 (.mv Z0) [],oQ 23 (.bslice 1 [.int .i64 0] [(0,.const (.int .i64 (-1))),(1,.const (.int .i64 256))] 2) [],oQ 24 (.call 58 [Z22,Z23]) [1,2],oQ 25 (.idxA 1 Z21 (.const (.int .i64 0))) [0,0,1,2,3],nQ (.store 1 Z25 Z24) [4,3,3,0,1,2,3]]
def l30r8:List AOper :=
 [oQ 26 (.mv Z3) [],oQ 2 (.mv Z26) [0,0]]
def l30:AFn :=
 (AFn.mk 27 1 (.seq (.reg l30r0) (.seq (.reg l30r1) (.seq (.seq (.reg l30r2) (.block 0 (.loop (.seq (.seq (.reg l30r3) (.cond (.tmp 10) .skip (.exit 0))) (.seq (.block 1 (.reg l30r4)) (.reg l30r5)))))) (.seq (.seq (.reg l30r6) (.cond (.tmp 20) (.reg l30r7) .skip)) (.seq (.reg l30r8) .ret))))) [.tmp 2])
theorem l30_eq:lowFn Tryz.prog 30=some l30:=by kernel_rfl
def l31r0:List AOper :=
 [oQ 2 (.alloc [.int .i64 0,.slice none 0 0,.slice none 0 0]) []]
def l31r1:List AOper :=
 [oQ 4 (.mv Z0) [],oQ 5 (.call 60 [Z4]) [0],oQ 3 (.alloc [.int .i64 0,.slice none 0 0,.slice none 0 0]) [],nQ (.store 3 Z3 Z5) [2,1,1,0,1,2]]
def l31r2:List AOper :=
 [oQ 6 (.mv Z0) [],oQ 7 (.call 59 [Z6,.const (.int .i64 24)]) [0]]
def l31r3:List AOper :=
 [oQ 9 (.bin .eql Z7 (.const (.int .i64 0))) [],oQ 8 (.mv Z9) [0]]
def l31r4:List AOper :=
 [oQ 10 (.mv Z0) [],oQ 11 (.bslice 1 [.int .i64 0] [(0,.const (.int .i64 (-1))),(1,.const (.int .i64 60)),(2,.const (.int .i64 61))] 3) [],oQ 12 (.call 58 [Z10,Z11]) [0,1],oQ 13 (.fld 0 Z3) [0,1,2],nQ (.store 1 Z13 Z12) [3,2,2,0,1,2]]
def l31r5:List AOper :=
 [oQ 15 (.bin .eql Z7 (.const (.int .i64 1))) [],oQ 14 (.mv Z15) [0]]
def l31r6:List AOper :=
 [oQ 16 (.fld 2 Z3) [],oQ 17 (.load false 1 Z16) [0],oQ 18 (.bslice 1 [.int .i64 0] [(0,.const (.int .i64 1))] 1) [],oQ 19 (.append 1 Z17 Z18) [1,2],oQ 20 (.fld 2 Z3) [0,1,2,3],nQ (.store 1 Z20 Z19) [4,3,3,0,1,2,3]]
def l31r7:List AOper :=
 [oQ 22 (.bin .eql Z7 (.const (.int .i64 2))) [],oQ 21 (.mv Z22) [0]]
def l31r8:List AOper :=
 [oQ 23 (.fld 2 Z3) [],oQ 24 (.load false 1 Z23) [0],oQ 25 (.len Z24) [1],oQ 26 (.bin .gtr Z25 (.const (.int .i64 0))) [2]]
def l31r9a:List AOper :=
 [oQ 27 (.fld 2 Z3) [],oQ 28 (.load false 1 Z27) [0],oQ 29 (.mv Z0) [],oQ 30 (.bslice 1 [.int .i64 0] [(0,.const (.int .i64 61)),(1,.const (.int .i64 (-61))),(2,.const (.int .i64 60))] 3) [],oQ 31 (.call 58 [Z29,Z30]) [2,3]]
def l31r9b:List AOper :=
 [oQ 32 (.idxA 1 Z28 (.const (.int .i64 0))) (1::uQ 5),nQ (.store 1 Z32 Z31) (5::4::4::uQ 5)]
def l31r9:List AOper:=l31r9a++l31r9b
def l31r10:List AOper :=
 [oQ 33 (.load true 3 Z3) [],nQ (.store 3 Z2 Z33) [0,0]]
def l31:AFn :=
 (AFn.mk 34 1 (.seq (.reg l31r0) (.seq (.reg l31r1) (.seq (.seq (.reg l31r2) (.block 0 (.seq (.reg l31r3) (.cond (.tmp 8) (.reg l31r4) (.seq (.reg l31r5) (.cond (.tmp 14) (.reg l31r6) (.seq (.reg l31r7) (.cond (.tmp 21) (.seq (.reg l31r8) (.cond (.tmp 26) (.draw l31r9) .skip)) .skip)))))))) (.seq (.reg l31r10) .ret)))) [.cell 2 true 3])
theorem l31_eq:lowFn Tryz.prog 31=some l31:=by kernel_rfl
def l32r0:List AOper :=
 [oQ 2 (.mv (.const (.bool false))) []]
def l32r1:List AOper :=
 [oQ 3 (.mv Z0) [],oQ 4 (.len Z3) [0],oQ 5 (.call 61 [Z4]) [1],oQ 6 (.mv Z5) [2,2],gQ 7 (.mv Z0) (some (6,true)) [3],gQ 8 (.call 62 [Z7]) (some (6,true)) [4,3,3],oQ 9 (.pick Z6 Z8 (.const (.bool false))) [3,5],oQ 2 (.mv Z9) (6::5::uQ 7)]
def l32:AFn :=
 (AFn.mk 10 1 (.seq (.reg l32r0) (.seq (.reg l32r1) .ret)) [.tmp 2])
theorem l32_eq:lowFn Tryz.prog 32=some l32:=by kernel_rfl
def l33r0:List AOper :=
 [oQ 2 (.box Z0) [],oQ 4 (.mv (.const (.bool false))) []]
def l33r1:List AOper :=
 [oQ 7 (.load true 3 Z2) [],oQ 8 (.call 22 [Z7]) [0],oQ 9 (.un .not Z8) [1],oQ 10 (.mv Z9) [2,1],gQ 11 (.mv Z1) (some (10,false)) [3],gQ 12 (.call 44 [Z11,.const (.int .i64 60)]) (some (10,false)) [4,3,3],gQ 13 (.un .not Z12) (some (10,false)) [5,3],oQ 14 (.pick Z10 (.const (.bool true)) Z13) [3,6]]
def l33r2:List AOper :=
 [oQ 4 (.mv (.const (.bool false))) []]
def l33r3:List AOper :=
 [oQ 16 (.load true 3 Z2) [],oQ 17 (.call 45 [Z16]) [0],oQ 15 (.mv Z17) [1],oQ 18 (.extract Z15 0) [2],oQ 19 (.extract Z15 1) [2],oQ 5 (.mv Z18) [3,1,0,1,2,3],oQ 6 (.mv Z19) (4::5::uQ 6)]
def l33r4:List AOper :=
 [oQ 20 (.mv Z6) [],oQ 21 (.mv Z1) [],oQ 22 (.bin .lss Z20 Z21) [0,1],oQ 4 (.mv Z22) [2,0,1,2]]
def l33:AFn :=
 (AFn.mk 23 2 (.seq (.reg l33r0) (.seq (.seq (.reg l33r1) (.cond (.tmp 14) (.seq (.reg l33r2) .ret) .skip)) (.seq (.reg l33r3) (.seq (.reg l33r4) .ret)))) [.tmp 4])
theorem l33_eq:lowFn Tryz.prog 33=some l33:=by kernel_rfl
def l34r0:List AOper :=
 [oQ 2 (.mv (.const (.slice none 0 0))) []]
def l34r1:List AOper :=
 [oQ 3 (.mv Z0) [],oQ 4 (.isnil false Z3) [0]]
def l34r2:List AOper :=
 [oQ 2 (.mv (.const (.slice none 0 0))) []]
def l34r3:List AOper :=
 [oQ 5 (.bslice 1 [.int .i64 0] [] 0) [],oQ 6 (.mv Z0) [],oQ 7 (.append 1 Z5 Z6) [0,1],oQ 2 (.mv Z7) [2,2,0,1,2]]
def l34:AFn :=
 (AFn.mk 8 1 (.seq (.reg l34r0) (.seq (.seq (.reg l34r1) (.cond (.tmp 4) (.seq (.reg l34r2) .ret) .skip)) (.seq (.reg l34r3) .ret))) [.tmp 2])
theorem l34_eq:lowFn Tryz.prog 34=some l34:=by kernel_rfl
def l35r0:List AOper :=
 [oQ 1 (.box Z0) [],oQ 2 (.mv (.const (.slice none 0 0))) []]
def l35r1:List AOper :=
 [oQ 5 (.load true 3 Z1) [],oQ 6 (.call 46 [Z5]) [0],oQ 7 (.mkslice 1 [.int .i64 0] Z6 Z6) [1,1],oQ 3 (.mv Z7) [2,1,0,1,2]]
def l35r2:List AOper :=
 [oQ 8 (.mv Z3) [],oQ 9 (.len Z8) [0],oQ 10 (.mv (.const (.int .i64 0))) []]
def l35r3:List AOper :=
 [oQ 11 (.bin .lss Z10 Z9) []]
def l35r4:List AOper :=
 [oQ 12 (.mv Z10) [],oQ 4 (.mv Z12) [0,0]]
def l35r5a:List AOper :=
 [oQ 13 (.mv Z3) [],oQ 14 (.mv Z4) [],oQ 15 (.load true 3 Z1) [],oQ 16 (.fld 1 Z1) [],oQ 17 (.load false 1 Z16) [3],oQ 18 (.mv Z4) [],oQ 19 (.call 63 [Z17,Z18]) [4,5],oQ 20 (.call 48 [Z15,Z19]) [2,6,6]]
def l35r5b:List AOper :=
 [oQ 21 (.idxA 1 Z13 Z14) (0::1::uQ 8),nQ (.store 1 Z21 Z20) (8::7::7::uQ 8)]
def l35r5:List AOper:=l35r5a++l35r5b
def l35r6:List AOper :=
 [oQ 22 (.bin .add Z10 (.const (.int .i64 1))) [],oQ 10 (.mv Z22) [0]]
def l35r7:List AOper :=
 [oQ 23 (.mv Z3) [],oQ 2 (.mv Z23) [0,0]]
def l35:AFn :=
 (AFn.mk 24 1 (.seq (.reg l35r0) (.seq (.reg l35r1) (.seq (.seq (.reg l35r2) (.block 0 (.loop (.seq (.reg l35r3) (.seq (.cond (.tmp 11) .skip (.exit 0)) (.seq (.block 1 (.seq (.reg l35r4) (.draw l35r5))) (.reg l35r6))))))) (.seq (.reg l35r7) .ret)))) [.tmp 2])
theorem l35_eq:lowFn Tryz.prog 35=some l35:=by kernel_rfl
def l36r0:List AOper :=
 [oQ 1 (.box Z0) [],oQ 2 (.mv (.const (.int .i64 0))) []]
def l36r1:List AOper :=
 [oQ 4 (.fld 1 Z1) [],oQ 5 (.load false 1 Z4) [0],oQ 6 (.len Z5) [1],oQ 7 (.bin .sub Z6 (.const (.int .i64 1))) [2],oQ 3 (.mv Z7) [3,0,1,2,3]]
def l36r2:List AOper :=
 [oQ 8 (.mv Z3) [],oQ 9 (.bin .lss Z8 (.const (.int .i64 0))) [0],oQ 10 (.mv Z9) [1],gQ 11 (.fld 2 Z1) (some (10,false)) [2],gQ 12 (.load false 1 Z11) (some (10,false)) [3,2],gQ 13 (.mv Z3) (some (10,false)) [2],gQ 14 (.idxA 1 Z12 Z13) (some (10,false)) [4,5,2],gQ 15 (.load false 1 Z14) (some (10,false)) [6,2],gQ 16 (.bin .neq Z15 (.const (.int .i64 1))) (some (10,false)) [7,2],oQ 17 (.pick Z10 (.const (.bool true)) Z16) [2,8]]
def l36r3:List AOper :=
 [oQ 2 (.mv (.const (.int .i64 1))) []]
def l36r4:List AOper :=
 [oQ 18 (.fld 1 Z1) [],oQ 19 (.load false 1 Z18) [0],oQ 20 (.mv Z3) [],oQ 21 (.idxA 1 Z19 Z20) [1,2],oQ 22 (.load false 1 Z21) [3],oQ 2 (.mv Z22) (4::uQ 5)]
def l36:AFn :=
 (AFn.mk 23 1 (.seq (.reg l36r0) (.seq (.reg l36r1) (.seq (.seq (.reg l36r2) (.cond (.tmp 17) (.seq (.reg l36r3) .ret) .skip)) (.seq (.reg l36r4) .ret)))) [.tmp 2])
theorem l36_eq:lowFn Tryz.prog 36=some l36:=by kernel_rfl
def l37r0:List AOper :=
 [oQ 6 (.mv (.const (.slice none 0 0))) []]
def l37r1:List AOper :=
 [oQ 8 (.mv Z1) [],oQ 9 (.mv Z2) [],oQ 10 (.bin .add Z8 Z9) [0,1],oQ 7 (.mv Z10) [2,0,1,2]]
def l37r2:List AOper :=
 [oQ 11 (.mv Z0) [],oQ 12 (.mv Z1) [],oQ 13 (.mv Z7) [],oQ 14 (.mv Z7) [],oQ 15 (.slice3 1 Z11 (some Z12) Z13 Z14) [0,1,2,3],oQ 6 (.mv Z15) (4::uQ 5)]
def l37:AFn :=
 (AFn.mk 16 3 (.seq (.reg l37r0) (.seq (.reg l37r1) (.seq (.reg l37r2) .ret))) [.tmp 6])
theorem l37_eq:lowFn Tryz.prog 37=some l37:=by kernel_rfl
def l38r0:List AOper :=
 [oQ 2 (.mv (.const (.bool false))) []]
def l38r1:List AOper :=
 [oQ 3 (.mv Z0) [],oQ 4 (.len Z3) [0],oQ 5 (.bin .leq Z4 (.const (.int .i64 60))) [1],oQ 6 (.mv Z5) [2],gQ 7 (.mv Z0) (some (6,true)) [3],gQ 8 (.call 64 [Z7,.const (.int .i64 0),.const (.int .i64 255)]) (some (6,true)) [4,3,3],oQ 9 (.pick Z6 Z8 (.const (.bool false))) [3,5],oQ 2 (.mv Z9) (6::5::uQ 7)]
def l38:AFn :=
 (AFn.mk 10 1 (.seq (.reg l38r0) (.seq (.reg l38r1) .ret)) [.tmp 2])
theorem l38_eq:lowFn Tryz.prog 38=some l38:=by kernel_rfl
def l39r0:List AOper :=
 [oQ 1 (.box Z0) [],oQ 2 (.mv (.const (.bool false))) []]
def l39r1:List AOper :=
 [oQ 3 (.fld 1 Z1) [],oQ 4 (.load false 1 Z3) [0],oQ 5 (.call 65 [Z4]) [1],oQ 6 (.mv Z5) [2,2],gQ 7 (.fld 2 Z1) (some (6,true)) [3],gQ 8 (.load false 1 Z7) (some (6,true)) [4,3],gQ 9 (.len Z8) (some (6,true)) [5,3],gQ 10 (.fld 1 Z1) (some (6,true)) [3],gQ 11 (.load false 1 Z10) (some (6,true)) [7,3],gQ 12 (.len Z11) (some (6,true)) [8,3],gQ 13 (.bin .eql Z9 Z12) (some (6,true)) [6,9,3],oQ 14 (.pick Z6 Z13 (.const (.bool false))) [3,10],oQ 15 (.mv Z14) [11,3],gQ 16 (.fld 2 Z1) (some (15,true)) [12],gQ 17 (.load false 1 Z16) (some (15,true)) [13,12],gQ 18 (.call 64 [Z17,.const (.int .i64 (-60)),.const (.int .i64 60)]) (some (15,true)) [14,12,12],oQ 19 (.pick Z15 Z18 (.const (.bool false))) [12,15],oQ 20 (.mv Z19) [16,15],gQ 21 (.fld 0 Z1) (some (20,true)) [17],gQ 22 (.load false 1 Z21) (some (20,true)) [18,17],gQ 23 (.call 66 [Z22,.const (.int .i64 0),.const (.int .i64 60)]) (some (20,true)) [19,17,17],oQ 24 (.pick Z20 Z23 (.const (.bool false))) [17,20],oQ 25 (.mv Z24) [21,20],gQ 26 (.fld 1 Z1) (some (25,true)) [22],gQ 27 (.load false 1 Z26) (some (25,true)) [23,22],gQ 28 (.call 67 [Z27]) (some (25,true)) [24,22,22],gQ 29 (.bin .eql Z28 (.const (.int .i64 0))) (some (25,true)) [25,22],gQ 30 (.mv Z29) (some (25,true)) [26,25,22],gQ 31 (.load true 3 Z1) (some (30,false)) [27],gQ 32 (.call 41 [Z31]) (some (30,false)) [28,27,27],gQ 33 (.call 64 [Z32,.const (.int .i64 0),.const (.int .i64 59)]) (some (30,false)) [29,29,27],gQ 34 (.pick Z30 (.const (.bool true)) Z33) (some (25,true)) [27,30,22],oQ 35 (.pick Z25 Z34 (.const (.bool false))) [22,31],oQ 2 (.mv Z35) (32::30::uQ 33)]
def l39:AFn :=
 (AFn.mk 36 1 (.seq (.reg l39r0) (.seq (.reg l39r1) .ret)) [.tmp 2])
theorem l39_eq:lowFn Tryz.prog 39=some l39:=by kernel_rfl
def l40r0:List AOper :=
 [oQ 2 (.box Z0) [],oQ 4 (.mv (.const (.bool false))) []]
def l40r1:List AOper :=
 [oQ 5 (.load true 3 Z2) [],oQ 6 (.call 41 [Z5]) [0],oQ 7 (.mv Z1) [],oQ 8 (.bin .sub Z7 (.const (.int .i64 1))) [2],oQ 9 (.call 64 [Z6,.const (.int .i64 0),Z8]) [1,3,1],oQ 4 (.mv Z9) (4::4::uQ 5)]
def l40:AFn :=
 (AFn.mk 10 2 (.seq (.reg l40r0) (.seq (.reg l40r1) .ret)) [.tmp 4])
theorem l40_eq:lowFn Tryz.prog 40=some l40:=by kernel_rfl
def l41r0:List AOper :=
 [oQ 1 (.box Z0) [],oQ 2 (.mv (.const (.slice none 0 0))) []]
def l41r1:List AOper :=
 [oQ 5 (.bslice 1 [.int .i64 0] [] 0) [],oQ 3 (.mv Z5) [0,0]]
def l41r2:List AOper :=
 [oQ 4 (.mv (.const (.int .i64 0))) []]
def l41r3:List AOper :=
 [oQ 6 (.mv Z4) [],oQ 7 (.fld 1 Z1) [],oQ 8 (.load false 1 Z7) [1],oQ 9 (.call 67 [Z8]) [2],oQ 10 (.bin .lss Z6 Z9) [0,3]]
def l41r4a:List AOper :=
 [oQ 13 (.mv Z3) [],oQ 14 (.load true 3 Z1) [],oQ 15 (.fld 1 Z1) [],oQ 16 (.load false 1 Z15) [2],oQ 17 (.mv Z4) [],oQ 18 (.call 69 [Z16,Z17]) [3,4],oQ 19 (.call 68 [Z14,Z18]) [1,5,5],oQ 20 (.bslice 1 [.int .i64 0] [(0,Z19)] 1) [6]]
def l41r4b:List AOper :=
 [oQ 21 (.append 1 Z13 Z20) [0,7,6],oQ 3 (.mv Z21) (8::8::uQ 9)]
def l41r4:List AOper:=l41r4a++l41r4b
def l41r5:List AOper :=
 [oQ 11 (.mv Z4) [],oQ 12 (.bin .add Z11 (.const (.int .i64 1))) [0],oQ 4 (.mv Z12) [1,0,1]]
def l41r6:List AOper :=
 [oQ 22 (.mv Z3) [],oQ 2 (.mv Z22) [0,0]]
def l41:AFn :=
 (AFn.mk 23 1 (.seq (.reg l41r0) (.seq (.reg l41r1) (.seq (.seq (.reg l41r2) (.block 0 (.loop (.seq (.seq (.reg l41r3) (.cond (.tmp 10) .skip (.exit 0))) (.seq (.block 1 (.draw l41r4)) (.reg l41r5)))))) (.seq (.reg l41r6) .ret)))) [.tmp 2])
theorem l41_eq:lowFn Tryz.prog 41=some l41:=by kernel_rfl
def l42r0:List AOper :=
 [oQ 2 (.mv (.const (.bool false))) []]
def l42r1:List AOper :=
 [oQ 5 (.mv Z0) [],oQ 6 (.len Z5) [0],oQ 7 (.bin .gtr Z6 (.const (.int .i64 4))) [1]]
def l42r2:List AOper :=
 [oQ 2 (.mv (.const (.bool false))) []]
def l42r3:List AOper :=
 [oQ 8 (.mv Z0) [],oQ 9 (.len Z8) [0],oQ 10 (.mv (.const (.int .i64 0))) []]
def l42r4:List AOper :=
 [oQ 11 (.bin .lss Z10 Z9) []]
def l42r5:List AOper :=
 [oQ 12 (.idxA 1 Z8 Z10) [],oQ 13 (.load false 1 Z12) [0],oQ 4 (.mv Z13) [1,0,1]]
def l42r6:List AOper :=
 [oQ 14 (.mv Z4) [],oQ 15 (.call 44 [Z14,.const (.int .i64 60)]) [0],oQ 16 (.un .not Z15) [1]]
def l42r7:List AOper :=
 [oQ 2 (.mv (.const (.bool false))) []]
def l42r8:List AOper :=
 [oQ 17 (.bin .add Z10 (.const (.int .i64 1))) [],oQ 10 (.mv Z17) [0]]
def l42r9:List AOper :=
 [oQ 18 (.mv Z0) [],oQ 19 (.call 49 [Z18]) [0],oQ 20 (.bin .leq Z19 (.const (.int .i64 60))) [1],oQ 2 (.mv Z20) [2,1,0,1,2]]
def l42:AFn :=
 (AFn.mk 21 1 (.seq (.reg l42r0) (.seq (.seq (.reg l42r1) (.cond (.tmp 7) (.seq (.reg l42r2) .ret) .skip)) (.seq (.seq (.reg l42r3) (.block 0 (.loop (.seq (.reg l42r4) (.seq (.cond (.tmp 11) .skip (.exit 0)) (.seq (.block 1 (.seq (.reg l42r5) (.seq (.reg l42r6) (.cond (.tmp 16) (.seq (.reg l42r7) .ret) .skip)))) (.reg l42r8))))))) (.seq (.reg l42r9) .ret)))) [.tmp 2])
theorem l42_eq:lowFn Tryz.prog 42=some l42:=by kernel_rfl
def l43r0:List AOper :=
 [oQ 4 (.mv (.const (.bool false))) []]
def l43r1:List AOper :=
 [oQ 7 (.mv Z0) [],oQ 8 (.len Z7) [0],oQ 9 (.mv Z1) [],oQ 10 (.bin .neq Z8 Z9) [1,2]]
def l43r2:List AOper :=
 [oQ 4 (.mv (.const (.bool false))) []]
def l43r3:List AOper :=
 [oQ 11 (.mv Z0) [],oQ 12 (.len Z11) [0],oQ 13 (.mv (.const (.int .i64 0))) []]
def l43r4:List AOper :=
 [oQ 14 (.bin .lss Z13 Z12) []]
def l43r5:List AOper :=
 [oQ 15 (.idxA 1 Z11 Z13) [],oQ 16 (.load false 1 Z15) [0],oQ 6 (.mv Z16) [1,0,1]]
def l43r6:List AOper :=
 [oQ 17 (.mv Z6) [],oQ 18 (.call 50 [Z17,.const (.int .i64 60)]) [0],oQ 19 (.un .not Z18) [1]]
def l43r7:List AOper :=
 [oQ 4 (.mv (.const (.bool false))) []]
def l43r8:List AOper :=
 [oQ 20 (.bin .add Z13 (.const (.int .i64 1))) [],oQ 13 (.mv Z20) [0]]
def l43r9:List AOper :=
 [oQ 4 (.mv (.const (.bool true))) []]
def l43:AFn :=
 (AFn.mk 21 2 (.seq (.reg l43r0) (.seq (.seq (.reg l43r1) (.cond (.tmp 10) (.seq (.reg l43r2) .ret) .skip)) (.seq (.seq (.reg l43r3) (.block 0 (.loop (.seq (.reg l43r4) (.seq (.cond (.tmp 14) .skip (.exit 0)) (.seq (.block 1 (.seq (.reg l43r5) (.seq (.reg l43r6) (.cond (.tmp 19) (.seq (.reg l43r7) .ret) .skip)))) (.reg l43r8))))))) (.seq (.reg l43r9) .ret)))) [.tmp 4])
theorem l43_eq:lowFn Tryz.prog 43=some l43:=by kernel_rfl
def l44r0:List AOper :=
 [oQ 4 (.mv (.const (.bool false))) []]
def l44r1:List AOper :=
 [oQ 5 (.mv Z0) [],oQ 6 (.bin .leq (.const (.int .i64 0)) Z5) [0],oQ 7 (.mv Z6) [1],gQ 8 (.mv Z0) (some (7,true)) [2],gQ 9 (.mv Z1) (some (7,true)) [2],gQ 10 (.bin .leq Z8 Z9) (some (7,true)) [3,4,2],oQ 11 (.pick Z7 Z10 (.const (.bool false))) [2,5],oQ 4 (.mv Z11) (6::2::uQ 7)]
def l44:AFn :=
 (AFn.mk 12 2 (.seq (.reg l44r0) (.seq (.reg l44r1) .ret)) [.tmp 4])
theorem l44_eq:lowFn Tryz.prog 44=some l44:=by kernel_rfl
def l45r0:List AOper :=
 [oQ 1 (.box Z0) [],oQ 2 (.mv (.const (.int .i64 0))) [],oQ 3 (.mv (.const (.int .i64 0))) [1]]
def l45r1:List AOper :=
 [oQ 9 (.load true 3 Z1) [],oQ 10 (.call 46 [Z9]) [0],oQ 11 (.bin .eql Z10 (.const (.int .i64 0))) [1]]
def l45r2:List AOper :=
 [oQ 2 (.mv (.const (.int .i64 (-1)))) [],oQ 3 (.mv (.const (.int .i64 (-1)))) [0,0]]
def l45r3a:List AOper :=
 [oQ 12 (.fld 0 Z1) [],oQ 13 (.load false 1 Z12) [0],oQ 14 (.fld 0 Z1) [],oQ 15 (.load false 1 Z14) [2],oQ 4 (.mv Z13) [1,0,1]]
def l45r3b:List AOper :=
 [oQ 5 (.mv Z15) (3::4::uQ 5)]
def l45r3:List AOper:=l45r3a++l45r3b
def l45r4:List AOper :=
 [oQ 16 (.fld 2 Z1) [],oQ 17 (.load false 1 Z16) [0],oQ 18 (.len Z17) [1],oQ 19 (.mv (.const (.int .i64 0))) []]
def l45r5:List AOper :=
 [oQ 20 (.bin .lss Z19 Z18) []]
def l45r6:List AOper :=
 [oQ 21 (.mv Z19) [],oQ 22 (.idxA 1 Z17 Z19) [],oQ 23 (.load false 1 Z22) [1],oQ 6 (.mv Z21) [0,0,1,2],oQ 7 (.mv Z23) [2,3,0,1,2,3]]
def l45r7:List AOper :=
 [oQ 24 (.fld 1 Z1) [],oQ 25 (.load false 1 Z24) [0],oQ 26 (.mv Z6) [],oQ 27 (.idxA 1 Z25 Z26) [1,2],oQ 28 (.load false 1 Z27) [3],oQ 29 (.bin .sub Z28 (.const (.int .i64 1))) [4],oQ 30 (.mv Z7) [],oQ 31 (.bin .mul Z29 Z30) [5,6],oQ 8 (.mv Z31) (7::uQ 8)]
def l45r8:List AOper :=
 [oQ 32 (.mv Z4) [],oQ 33 (.mv Z8) [],oQ 34 (.minmax false Z33 (.const (.int .i64 0))) [1],oQ 35 (.bin .add Z32 Z34) [0,2],oQ 4 (.mv Z35) [3,0,1,2,3]]
def l45r9:List AOper :=
 [oQ 36 (.mv Z5) [],oQ 37 (.mv Z8) [],oQ 38 (.minmax true Z37 (.const (.int .i64 0))) [1],oQ 39 (.bin .add Z36 Z38) [0,2],oQ 5 (.mv Z39) [3,0,1,2,3]]
def l45r10:List AOper :=
 [oQ 40 (.bin .add Z19 (.const (.int .i64 1))) [],oQ 19 (.mv Z40) [0]]
def l45r11:List AOper :=
 [oQ 41 (.mv Z4) [],oQ 42 (.mv Z5) [],oQ 2 (.mv Z41) [0,0],oQ 3 (.mv Z42) [1,2,0,1,2]]
def l45:AFn :=
 (AFn.mk 43 1 (.seq (.reg l45r0) (.seq (.seq (.reg l45r1) (.cond (.tmp 11) (.seq (.reg l45r2) .ret) .skip)) (.seq (.draw l45r3) (.seq (.seq (.reg l45r4) (.block 0 (.loop (.seq (.reg l45r5) (.seq (.cond (.tmp 20) .skip (.exit 0)) (.seq (.block 1 (.seq (.reg l45r6) (.seq (.reg l45r7) (.seq (.reg l45r8) (.reg l45r9))))) (.reg l45r10))))))) (.seq (.reg l45r11) .ret))))) [.tmp 2,.tmp 3])
theorem l45_eq:lowFn Tryz.prog 45=some l45:=by kernel_rfl
def l46r0:List AOper :=
 [oQ 1 (.box Z0) [],oQ 2 (.mv (.const (.int .i64 0))) []]
def l46r1:List AOper :=
 [oQ 3 (.fld 1 Z1) [],oQ 4 (.load false 1 Z3) [0],oQ 5 (.call 49 [Z4]) [1],oQ 2 (.mv Z5) [2,2,0,1,2]]
def l46:AFn :=
 (AFn.mk 6 1 (.seq (.reg l46r0) (.seq (.reg l46r1) .ret)) [.tmp 2])
theorem l46_eq:lowFn Tryz.prog 46=some l46:=by kernel_rfl
def l47r0:List AOper :=
 [oQ 4 (.mv (.const (.bool false))) []]
def l47r1:List AOper :=
 [oQ 5 (.mv Z0) [],oQ 6 (.mv Z1) [],oQ 7 (.call 70 [Z5,Z6]) [0,1],oQ 8 (.bin .geq Z7 (.const (.int .i64 0))) [2],oQ 4 (.mv Z8) [3,2,0,1,2,3]]
def l47:AFn :=
 (AFn.mk 9 2 (.seq (.reg l47r0) (.seq (.reg l47r1) .ret)) [.tmp 4])
theorem l47_eq:lowFn Tryz.prog 47=some l47:=by kernel_rfl
def l48r0:List AOper :=
 [oQ 2 (.box Z0) [],oQ 3 (.box Z1) [],oQ 4 (.mv (.const (.int .i64 0))) []]
def l48r1a:List AOper :=
 [oQ 5 (.fld 0 Z2) [],oQ 6 (.load false 1 Z5) [0],oQ 7 (.load true 4 Z3) [],oQ 8 (.fld 2 Z2) [],oQ 9 (.load false 1 Z8) [3],oQ 10 (.call 71 [Z7,Z9]) [2,4]]
def l48r1b:List AOper :=
 [oQ 11 (.bin .add Z6 Z10) [1,5],oQ 4 (.mv Z11) (6::5::uQ 7)]
def l48r1:List AOper:=l48r1a++l48r1b
def l48:AFn :=
 (AFn.mk 12 2 (.seq (.reg l48r0) (.seq (.draw l48r1) .ret)) [.tmp 4])
theorem l48_eq:lowFn Tryz.prog 48=some l48:=by kernel_rfl
def l49r0:List AOper :=
 [oQ 2 (.mv (.const (.int .i64 0))) []]
def l49r1:List AOper :=
 [oQ 3 (.mv (.const (.int .i64 1))) []]
def l49r2:List AOper :=
 [oQ 6 (.mv Z0) [],oQ 7 (.len Z6) [0],oQ 8 (.mv (.const (.int .i64 0))) []]
def l49r3:List AOper :=
 [oQ 9 (.bin .lss Z8 Z7) []]
def l49r4:List AOper :=
 [oQ 10 (.idxA 1 Z6 Z8) [],oQ 11 (.load false 1 Z10) [0],oQ 5 (.mv Z11) [1,0,1]]
def l49r5:List AOper :=
 [oQ 12 (.mv Z3) [],oQ 13 (.mv Z5) [],oQ 14 (.bin .mul Z12 Z13) [0,1],oQ 3 (.mv Z14) [2,0,1,2]]
def l49r6:List AOper :=
 [oQ 15 (.bin .add Z8 (.const (.int .i64 1))) [],oQ 8 (.mv Z15) [0]]
def l49r7:List AOper :=
 [oQ 16 (.mv Z3) [],oQ 2 (.mv Z16) [0,0]]
def l49:AFn :=
 (AFn.mk 17 1 (.seq (.reg l49r0) (.seq (.reg l49r1) (.seq (.seq (.reg l49r2) (.block 0 (.loop (.seq (.reg l49r3) (.seq (.cond (.tmp 9) .skip (.exit 0)) (.seq (.block 1 (.seq (.reg l49r4) (.reg l49r5))) (.reg l49r6))))))) (.seq (.reg l49r7) .ret)))) [.tmp 2])
theorem l49_eq:lowFn Tryz.prog 49=some l49:=by kernel_rfl
def l50r0:List AOper :=
 [oQ 4 (.mv (.const (.bool false))) []]
def l50r1:List AOper :=
 [oQ 5 (.mv Z1) [],oQ 6 (.un .neg Z5) [0],oQ 7 (.mv Z0) [],oQ 8 (.bin .leq Z6 Z7) [1,2],oQ 9 (.mv Z8) [3],gQ 10 (.mv Z0) (some (9,true)) [4],gQ 11 (.mv Z1) (some (9,true)) [4],gQ 12 (.bin .leq Z10 Z11) (some (9,true)) [5,6,4],oQ 13 (.pick Z9 Z12 (.const (.bool false))) [4,7],oQ 4 (.mv Z13) (8::4::uQ 9)]
def l50:AFn :=
 (AFn.mk 14 2 (.seq (.reg l50r0) (.seq (.reg l50r1) .ret)) [.tmp 4])
theorem l50_eq:lowFn Tryz.prog 50=some l50:=by kernel_rfl
def l51r0:List AOper :=
 [oQ 1 (.box Z0) [],oQ 2 (.mv (.const (.int .i64 0))) []]
def l51r1a:List AOper :=
 [oQ 5 (.fld 1 Z1) [],oQ 6 (.load false 1 Z5) [0],oQ 7 (.fld 0 Z1) [],oQ 8 (.load false 1 Z7) [2],oQ 9 (.bin .sub Z6 Z8) [1,3],oQ 10 (.fld 2 Z1) [],oQ 11 (.load false 1 Z10) [5],oQ 3 (.mv Z9) (4::uQ 5)]
def l51r1b:List AOper :=
 [oQ 4 (.mv Z11) (6::7::uQ 8)]
def l51r1:List AOper:=l51r1a++l51r1b
def l51r2:List AOper :=
 [oQ 12 (.mv Z4) [],oQ 13 (.bin .lss Z12 (.const (.int .i64 0))) [0]]
def l51r3:List AOper :=
 [oQ 14 (.mv Z3) [],oQ 15 (.un .neg Z14) [0],oQ 16 (.mv Z4) [],oQ 17 (.un .neg Z16) [2],oQ 3 (.mv Z15) [1,0,1],oQ 4 (.mv Z17) (3::4::uQ 5)]
def l51r4:List AOper :=
 [oQ 18 (.mv Z3) [],oQ 19 (.bin .leq Z18 (.const (.int .i64 0))) [0]]
def l51r5:List AOper :=
 [oQ 2 (.mv (.const (.int .i64 0))) []]
def l51r6:List AOper :=
 [oQ 20 (.mv Z3) [],oQ 21 (.mv Z4) [],oQ 22 (.bin .add Z20 Z21) [0,1],oQ 23 (.bin .sub Z22 (.const (.int .i64 1))) [2],oQ 24 (.mv Z4) [],oQ 25 (.bin .quo Z23 Z24) [3,4],oQ 2 (.mv Z25) (5::uQ 6)]
def l51:AFn :=
 (AFn.mk 26 1 (.seq (.reg l51r0) (.seq (.draw l51r1) (.seq (.seq (.reg l51r2) (.cond (.tmp 13) (.reg l51r3) .skip)) (.seq (.seq (.reg l51r4) (.cond (.tmp 19) (.seq (.reg l51r5) .ret) .skip)) (.seq (.reg l51r6) .ret))))) [.tmp 2])
theorem l51_eq:lowFn Tryz.prog 51=some l51:=by kernel_rfl
def l52r0:List AOper :=
 [oQ 2 (.box Z0) [],oQ 4 (.mv (.const (.int .i64 0))) []]
def l52r1:List AOper :=
 [oQ 5 (.fld 0 Z2) [],oQ 6 (.load false 1 Z5) [0],oQ 7 (.mv Z1) [],oQ 8 (.fld 2 Z2) [],oQ 9 (.load false 1 Z8) [3],oQ 10 (.bin .mul Z7 Z9) [2,4],oQ 11 (.bin .add Z6 Z10) [1,5],oQ 4 (.mv Z11) (6::uQ 7)]
def l52:AFn :=
 (AFn.mk 12 2 (.seq (.reg l52r0) (.seq (.reg l52r1) .ret)) [.tmp 4])
theorem l52_eq:lowFn Tryz.prog 52=some l52:=by kernel_rfl
def l53r0:List AOper :=
 [oQ 6 (.alloc [.int .i64 0,.int .i64 0,.int .i64 0,.int .i64 0,.int .i64 0]) [],oQ 7 (.mv (.const (.bool false))) []]
def l53r1:List AOper :=
 [oQ 8 (.mv Z0) [],oQ 9 (.len Z8) [0],oQ 10 (.bin .lss Z9 (.const (.int .i64 1))) [1],oQ 11 (.mv Z10) [2],gQ 12 (.mv Z0) (some (11,false)) [3],gQ 13 (.len Z12) (some (11,false)) [4,3],gQ 14 (.bin .gtr Z13 (.const (.int .i64 3))) (some (11,false)) [5,3],oQ 15 (.pick Z11 (.const (.bool true)) Z14) [3,6],oQ 16 (.mv Z15) [7,3],gQ 17 (.mv Z1) (some (16,false)) [8],gQ 18 (.len Z17) (some (16,false)) [9,8],gQ 19 (.mv Z0) (some (16,false)) [8],gQ 20 (.len Z19) (some (16,false)) [11,8],gQ 21 (.bin .neq Z18 Z20) (some (16,false)) [10,12,8],oQ 22 (.pick Z16 (.const (.bool true)) Z21) [8,13],oQ 23 (.mv Z22) [14,8],gQ 24 (.mv Z2) (some (23,false)) [15],gQ 25 (.call 72 [Z24]) (some (23,false)) [16,15,15],gQ 26 (.un .not Z25) (some (23,false)) [17,15],oQ 27 (.pick Z23 (.const (.bool true)) Z26) [15,18]]
def l53r2:List AOper :=
 [oQ 28 (.call 73 []) [],nQ (.store 5 Z6 Z28) [0,0,0],oQ 7 (.mv (.const (.bool false))) [1,0,1]]
def l53r3:List AOper :=
 [oQ 29 (.mv Z0) [],oQ 30 (.mv Z1) [],oQ 31 (.call 74 [Z29,Z30]) [0,1],oQ 32 (.extract Z31 0) [2],oQ 33 (.extract Z31 1) [2],nQ (.store 5 Z6 Z32) (3::2::uQ 5),oQ 7 (.mv Z33) (4::5::uQ 6)]
def l53:AFn :=
 (AFn.mk 34 3 (.seq (.reg l53r0) (.seq (.seq (.reg l53r1) (.cond (.tmp 27) (.seq (.reg l53r2) .ret) .skip)) (.seq (.reg l53r3) .ret))) [.cell 6 true 5,.tmp 7])
theorem l53_eq:lowFn Tryz.prog 53=some l53:=by kernel_rfl
def l54r0:List AOper :=
 [oQ 2 (.mv (.const (.slice none 0 0))) []]
def l54r1:List AOper :=
 [oQ 3 (.alloc [.bool false,.bool false,.bool false,.bool false,.bool false]) []]
def l54r2:List AOper :=
 [oQ 11 (.mv Z0) [],oQ 12 (.len Z11) [0],oQ 13 (.mv (.const (.int .i64 0))) []]
def l54r3:List AOper :=
 [oQ 14 (.bin .lss Z13 Z12) []]
def l54r4:List AOper :=
 [oQ 15 (.idxA 1 Z11 Z13) [],oQ 16 (.load false 1 Z15) [0],oQ 5 (.mv Z16) [1,0,1]]
def l54r5:List AOper :=
 [oQ 17 (.mv Z5) [],oQ 18 (.len Z17) [0],oQ 19 (.mv (.const (.int .i64 0))) []]
def l54r6:List AOper :=
 [oQ 20 (.bin .lss Z19 Z18) []]
def l54r7:List AOper :=
 [oQ 21 (.idxA 1 Z17 Z19) [],oQ 22 (.load false 1 Z21) [0],oQ 7 (.mv Z22) [1,0,1]]
def l54r8:List AOper :=
 [oQ 23 (.mv Z7) [],oQ 24 (.idxP 1 5 Z3 Z23) [0,0],nQ (.store 1 Z24 (.const (.bool true))) [1,0]]
def l54r9:List AOper :=
 [oQ 25 (.bin .add Z19 (.const (.int .i64 1))) [],oQ 19 (.mv Z25) [0]]
def l54r10:List AOper :=
 [oQ 26 (.bin .add Z13 (.const (.int .i64 1))) [],oQ 13 (.mv Z26) [0]]
def l54r11:List AOper :=
 [oQ 8 (.mv (.const (.slice none 0 0))) []]
def l54r12:List AOper :=
 [oQ 27 (.load true 5 Z3) [],oQ 28 (.mv (.const (.int .i64 0))) []]
def l54r13:List AOper :=
 [oQ 29 (.bin .lss Z28 (.const (.int .i64 5))) []]
def l54r14:List AOper :=
 [oQ 30 (.mv Z28) [],oQ 31 (.raw (Op.index 99 Z27 Z28)) [],oQ 9 (.mv Z30) [0,0,1],oQ 10 (.mv Z31) [1,2,0,1,2]]
def l54r15:List AOper :=
 [oQ 32 (.mv Z10) []]
def l54r16:List AOper :=
 [oQ 33 (.mv Z8) [],oQ 34 (.mv Z9) [],oQ 35 (.bslice 1 [.int .i64 0] [(0,Z34)] 1) [1],oQ 36 (.append 1 Z33 Z35) [0,2],oQ 8 (.mv Z36) [3,3,0,1,2,3]]
def l54r17:List AOper :=
 [oQ 37 (.bin .add Z28 (.const (.int .i64 1))) [],oQ 28 (.mv Z37) [0]]
def l54r18:List AOper :=
 [oQ 38 (.mv Z8) [],oQ 2 (.mv Z38) [0,0]]
def l54:AFn :=
 (AFn.mk 39 1 (.seq (.reg l54r0) (.seq (.reg l54r1) (.seq (.seq (.reg l54r2) (.block 0 (.loop (.seq (.reg l54r3) (.seq (.cond (.tmp 14) .skip (.exit 0)) (.seq (.block 1 (.seq (.reg l54r4) (.seq (.reg l54r5) (.block 2 (.loop (.seq (.reg l54r6) (.seq (.cond (.tmp 20) .skip (.exit 2)) (.seq (.block 3 (.seq (.reg l54r7) (.reg l54r8))) (.reg l54r9))))))))) (.reg l54r10))))))) (.seq (.reg l54r11) (.seq (.seq (.reg l54r12) (.block 4 (.loop (.seq (.reg l54r13) (.seq (.cond (.tmp 29) .skip (.exit 4)) (.seq (.block 5 (.seq (.reg l54r14) (.seq (.reg l54r15) (.cond (.tmp 32) (.reg l54r16) .skip)))) (.reg l54r17))))))) (.seq (.reg l54r18) .ret)))))) [.tmp 2])
theorem l54_eq:lowFn Tryz.prog 54=some l54:=by kernel_rfl
def l55r0:List AOper :=
 [oQ 2 (.box Z0) [],oQ 4 (.mv (.const (.int .i64 0))) []]
def l55r1a:List AOper :=
 [oQ 5 (.load true 5 Z2) [],oQ 6 (.mv Z1) [],oQ 7 (.call 54 [Z6]) [1]]
def l55r1b:List AOper :=
 [oQ 8 (.call 56 [Z5,Z7]) [0,2,2],oQ 9 (.call 49 [Z8]) [3,3],oQ 4 (.mv Z9) (4::4::uQ 5)]
def l55r1:List AOper:=l55r1a++l55r1b
def l55:AFn :=
 (AFn.mk 10 2 (.seq (.reg l55r0) (.seq (.draw l55r1) .ret)) [.tmp 4])
theorem l55_eq:lowFn Tryz.prog 55=some l55:=by kernel_rfl
def l56r0:List AOper :=
 [oQ 2 (.box Z0) [],oQ 4 (.mv (.const (.slice none 0 0))) []]
def l56r1:List AOper :=
 [oQ 8 (.mv Z1) [],oQ 9 (.len Z8) [0],oQ 10 (.mkslice 1 [.int .i64 0] Z9 Z9) [1,1],oQ 5 (.mv Z10) [2,0,1,2]]
def l56r2:List AOper :=
 [oQ 11 (.mv Z1) [],oQ 12 (.len Z11) [0],oQ 13 (.mv (.const (.int .i64 0))) []]
def l56r3:List AOper :=
 [oQ 14 (.bin .lss Z13 Z12) []]
def l56r4:List AOper :=
 [oQ 15 (.mv Z13) [],oQ 16 (.idxA 1 Z11 Z13) [],oQ 17 (.load false 1 Z16) [1],oQ 6 (.mv Z15) [0,0,1,2],oQ 7 (.mv Z17) [2,3,0,1,2,3]]
def l56r5:List AOper :=
 [oQ 18 (.mv Z5) [],oQ 19 (.mv Z6) [],oQ 20 (.mv Z7) [],oQ 21 (.idxP 1 5 Z2 Z20) [2],oQ 22 (.load false 1 Z21) [3],oQ 23 (.idxA 1 Z18 Z19) (0::1::uQ 5),nQ (.store 1 Z23 Z22) (5::4::uQ 5)]
def l56r6:List AOper :=
 [oQ 24 (.bin .add Z13 (.const (.int .i64 1))) [],oQ 13 (.mv Z24) [0]]
def l56r7:List AOper :=
 [oQ 25 (.mv Z5) [],oQ 4 (.mv Z25) [0,0]]
def l56:AFn :=
 (AFn.mk 26 2 (.seq (.reg l56r0) (.seq (.reg l56r1) (.seq (.seq (.reg l56r2) (.block 0 (.loop (.seq (.reg l56r3) (.seq (.cond (.tmp 14) .skip (.exit 0)) (.seq (.block 1 (.seq (.reg l56r4) (.reg l56r5))) (.reg l56r6))))))) (.seq (.reg l56r7) .ret)))) [.tmp 4])
theorem l56_eq:lowFn Tryz.prog 56=some l56:=by kernel_rfl
def l57r0:List AOper :=
 [oQ 4 (.box Z0) [],oQ 8 (.mv (.const (.slice none 0 0))) []]
def l57r1:List AOper :=
 [oQ 9 (.mv (.const (.slice none 0 0))) []]
def l57r2:List AOper :=
 [oQ 16 (.mv Z1) [],oQ 17 (.len Z16) [0],oQ 18 (.mv (.const (.int .i64 0))) []]
def l57r3:List AOper :=
 [oQ 19 (.bin .lss Z18 Z17) []]
def l57r4:List AOper :=
 [oQ 20 (.mv Z18) [],oQ 21 (.idxA 2 Z16 Z18) [],oQ 22 (.load true 2 Z21) [1],oQ 11 (.alloc [.slice none 0 0,.slice none 0 0]) [],oQ 10 (.mv Z20) [0,0,1,2,3],nQ (.store 2 Z11 Z22) (3::2::4::uQ 5)]
def l57r5a:List AOper :=
 [oQ 23 (.mv Z9) [],oQ 24 (.load true 2 Z11) [],oQ 25 (.mv Z2) [],oQ 26 (.mv Z10) [],oQ 27 (.idxA 1 Z25 Z26) [2,3],oQ 28 (.load false 1 Z27) [4],oQ 29 (.call 75 [Z24,Z28]) [1,5],oQ 30 (.mkfn (Fn.func 76) [Z29] []) [6],oQ 31 (.bslice 1 [.nilFunc] [(0,Z30)] 1) [7]]
def l57r5b:List AOper :=
 [oQ 32 (.append 1 Z23 Z31) [0,8,6],oQ 9 (.mv Z32) (9::9::uQ 10)]
def l57r5:List AOper:=l57r5a++l57r5b
def l57r6:List AOper :=
 [oQ 33 (.bin .add Z18 (.const (.int .i64 1))) [],oQ 18 (.mv Z33) [0]]
def l57r7:List AOper :=
 [oQ 34 (.mv Z2) [],oQ 35 (.call 54 [Z34]) [0],oQ 36 (.mv Z3) [],oQ 37 (.call 77 [Z35,Z36]) [1,2,1],oQ 12 (.mv Z37) [3,3,0,1,2,3]]
def l57r8:List AOper :=
 [oQ 13 (.mv (.const (.slice none 0 0))) []]
def l57r9:List AOper :=
 [oQ 38 (.load true 5 Z4) [],oQ 39 (.mv Z3) [],oQ 40 (.build [.int .i64 0,.int .i64 0,.int .i64 0,.int .i64 0,.int .i64 0] []) [],oQ 41 (.call 78 [Z38,Z39,Z40]) [0,1,2],oQ 42 (.len Z41) [3],oQ 43 (.mv (.const (.int .i64 0))) []]
def l57r10:List AOper :=
 [oQ 44 (.bin .lss Z43 Z42) []]
def l57r11:List AOper :=
 [oQ 45 (.idxA 5 Z41 Z43) [],oQ 46 (.load true 5 Z45) [0],oQ 15 (.alloc [.int .i64 0,.int .i64 0,.int .i64 0,.int .i64 0,.int .i64 0]) [],nQ (.store 5 Z15 Z46) [2,1,0,1,2]]
def l57r12:List AOper :=
 [oQ 47 (.mv Z13) [],oQ 48 (.load true 5 Z4) [],oQ 49 (.mv Z12) [],oQ 50 (.load true 5 Z15) [],oQ 51 (.call 78 [Z48,Z49,Z50]) [1,2,3],oQ 52 (.mv Z9) [],oQ 53 (.call 79 [Z51,Z52]) [4,5,4],oQ 54 (.bslice 1 [.int .i64 0] [(0,Z53)] 1) [6],oQ 55 (.append 1 Z47 Z54) [0,7,6],oQ 13 (.mv Z55) (8::8::uQ 9)]
def l57r13:List AOper :=
 [oQ 56 (.bin .add Z43 (.const (.int .i64 1))) [],oQ 43 (.mv Z56) [0]]
def l57r14:List AOper :=
 [oQ 57 (.mv Z13) [],oQ 8 (.mv Z57) [0,0]]
def l57:AFn :=
 (AFn.mk 58 4 (.seq (.reg l57r0) (.seq (.reg l57r1) (.seq (.seq (.reg l57r2) (.block 0 (.loop (.seq (.reg l57r3) (.seq (.cond (.tmp 19) .skip (.exit 0)) (.seq (.block 1 (.seq (.reg l57r4) (.draw l57r5))) (.reg l57r6))))))) (.seq (.reg l57r7) (.seq (.reg l57r8) (.seq (.seq (.reg l57r9) (.block 2 (.loop (.seq (.reg l57r10) (.seq (.cond (.tmp 44) .skip (.exit 2)) (.seq (.block 3 (.seq (.reg l57r11) (.reg l57r12))) (.reg l57r13))))))) (.seq (.reg l57r14) .ret))))))) [.tmp 8])
theorem l57_eq:lowFn Tryz.prog 57=some l57:=by kernel_rfl
def l58r0:List AOper :=
 [oQ 4 (.mv (.const (.int .i64 0))) []]
def l58r1:List AOper :=
 [oQ 5 (.mv Z1) [],oQ 6 (.mv Z0) [],oQ 7 (.mv Z1) [],oQ 8 (.len Z7) [2],oQ 9 (.call 59 [Z6,Z8]) [1,3],oQ 10 (.idxA 1 Z5 Z9) [0,4],oQ 11 (.load false 1 Z10) [5],oQ 4 (.mv Z11) (6::4::uQ 7)]
def l58:AFn :=
 (AFn.mk 12 2 (.seq (.reg l58r0) (.seq (.reg l58r1) .ret)) [.tmp 4])
theorem l58_eq:lowFn Tryz.prog 58=some l58:=by kernel_rfl
def l59r0:List AOper :=
 [oQ 4 (.mv (.const (.int .i64 0))) []]
def l59r1:List AOper :=
 [oQ 7 (.mv Z0) [],oQ 8 (.mv Z0) [],oQ 9 (.nilck Z8) [1],oQ 10 (.fld 1 Z9) [2],oQ 11 (.load false 1 Z10) [3],oQ 12 (.bin .add Z11 (.const (.int .i64 1))) [4],oQ 13 (.nilck Z7) (0::uQ 6),oQ 14 (.fld 1 Z13) (6::uQ 6),nQ (.store 1 Z14 Z12) (7::5::uQ 6)]
def l59r2:List AOper :=
 [oQ 15 (.mv Z1) [],oQ 16 (.bin .lss Z15 (.const (.int .i64 1))) [0],oQ 17 (.mv Z16) [1],gQ 18 (.mv Z0) (some (17,false)) [2],gQ 19 (.nilck Z18) (some (17,false)) [3,2],gQ 20 (.fld 0 Z19) (some (17,false)) [4,2],gQ 21 (.load false 1 Z20) (some (17,false)) [5,2],gQ 22 (.len Z21) (some (17,false)) [6,2],gQ 23 (.bin .eql Z22 (.const (.int .i64 0))) (some (17,false)) [7,2],oQ 24 (.pick Z17 (.const (.bool true)) Z23) [2,8]]
def l59r3:List AOper :=
 [oQ 4 (.mv (.const (.int .i64 0))) []]
def l59r4:List AOper :=
 [oQ 25 (.mv Z0) [],oQ 26 (.nilck Z25) [0],oQ 27 (.fld 1 Z26) [1],oQ 28 (.load false 1 Z27) [2],oQ 29 (.bin .sub Z28 (.const (.int .i64 1))) [3],oQ 5 (.mv Z29) (4::uQ 5)]
def l59r5:List AOper :=
 [oQ 30 (.mv Z5) [],oQ 31 (.mv Z0) [],oQ 32 (.nilck Z31) [1],oQ 33 (.fld 0 Z32) [2],oQ 34 (.load false 1 Z33) [3],oQ 35 (.len Z34) [4],oQ 36 (.bin .lss Z30 Z35) [0,5]]
def l59r6:List AOper :=
 [oQ 37 (.mv Z0) [],oQ 38 (.nilck Z37) [0],oQ 39 (.fld 0 Z38) [1],oQ 40 (.load false 1 Z39) [2],oQ 41 (.mv Z5) [],oQ 42 (.idxA 1 Z40 Z41) [3,4],oQ 43 (.load false 1 Z42) [5],oQ 44 (.conv .i64 Z43) [6],oQ 45 (.mv Z1) [],oQ 46 (.bin .rem Z44 Z45) [7,8],oQ 4 (.mv Z46) (9::uQ 10)]
def l59r7a:List AOper :=
 [oQ 47 (.mv Z0) [],oQ 48 (.nilck Z47) [0],oQ 49 (.fld 0 Z48) [1],oQ 50 (.load false 1 Z49) [2],oQ 51 (.mv Z5) [],oQ 52 (.mv Z0) [],oQ 53 (.nilck Z52) [5],oQ 54 (.fld 0 Z53) [6],oQ 55 (.load false 1 Z54) [7],oQ 56 (.len Z55) [8],oQ 57 (.bin .rem Z51 Z56) [4,9],oQ 58 (.idxA 1 Z50 Z57) [3,10],oQ 59 (.load false 1 Z58) [11],oQ 60 (.conv .i64 Z59) [12],oQ 61 (.bin .mul Z60 (.const (.int .i64 131))) [13],oQ 62 (.mv Z0) [],oQ 63 (.nilck Z62) [15],oQ 64 (.fld 0 Z63) [16],oQ 65 (.load false 1 Z64) [17],oQ 66 (.mv Z5) [],oQ 67 (.bin .mul Z66 (.const (.int .i64 7))) [19],oQ 68 (.bin .add Z67 (.const (.int .i64 3))) [20],oQ 69 (.mv Z0) [],oQ 70 (.nilck Z69) [22],oQ 71 (.fld 0 Z70) [23],oQ 72 (.load false 1 Z71) [24],oQ 73 (.len Z72) [25],oQ 74 (.bin .rem Z68 Z73) [21,26],oQ 75 (.idxA 1 Z65 Z74) [18,27],oQ 76 (.load false 1 Z75) [28],oQ 77 (.conv .i64 Z76) [29],oQ 78 (.bin .mul Z77 (.const (.int .i64 1117))) [30],oQ 79 (.bin .add Z61 Z78) [14,31],oQ 80 (.mv Z5) [],oQ 81 (.bin .mul Z80 (.const (.int .i64 29))) [33],oQ 82 (.bin .add Z79 Z81) [32,34],oQ 83 (.mv Z5) [],oQ 84 (.mv Z0) [],oQ 85 (.nilck Z84) [37],oQ 86 (.fld 0 Z85) [38],oQ 87 (.load false 1 Z86) [39],oQ 88 (.len Z87) [40],oQ 89 (.bin .quo Z83 Z88) [36,41],oQ 90 (.bin .mul Z89 (.const (.int .i64 53))) [42]]
def l59r7b:List AOper :=
 [oQ 91 (.bin .add Z82 Z90) [35,43],oQ 6 (.mv Z91) (44::uQ 45)]
def l59r7:List AOper:=l59r7a++l59r7b
def l59r8:List AOper :=
 [oQ 92 (.mv Z6) [],oQ 93 (.mv Z6) [],oQ 94 (.bin .quo Z93 (.const (.int .i64 64))) [1],oQ 95 (.bin .xor Z92 Z94) [0,2],oQ 6 (.mv Z95) [3,0,1,2,3]]
def l59r9:List AOper :=
 [oQ 96 (.mv Z6) [],oQ 97 (.mv Z1) [],oQ 98 (.bin .rem Z96 Z97) [0,1],oQ 4 (.mv Z98) [2,0,1,2]]
def l59:AFn :=
 (AFn.mk 99 2 (.seq (.reg l59r0) (.seq (.reg l59r1) (.seq (.seq (.reg l59r2) (.cond (.tmp 24) (.seq (.reg l59r3) .ret) .skip)) (.seq (.reg l59r4) (.seq (.seq (.reg l59r5) (.cond (.tmp 36) (.seq (.reg l59r6) .ret) .skip)) (.seq (.draw l59r7) (.seq (.reg l59r8) (.seq (.reg l59r9) .ret)))))))) [.tmp 4])
theorem l59_eq:lowFn Tryz.prog 59=some l59:=by kernel_rfl
def l60r0:List AOper :=
 [oQ 2 (.alloc [.int .i64 0,.slice none 0 0,.slice none 0 0]) []]
def l60r1:List AOper :=
 [oQ 8 (.mv Z0) [],oQ 9 (.call 81 [Z8]) [0],oQ 10 (.call 80 [Z9]) [1,1],oQ 3 (.alloc [.int .i64 0,.slice none 0 0,.slice none 0 0]) [],nQ (.store 3 Z3 Z10) [3,2,2,0,1,2,3]]
def l60r2:List AOper :=
 [oQ 11 (.mv Z0) [],oQ 12 (.mv Z0) [],oQ 13 (.call 59 [Z12,.const (.int .i64 10)]) [1],oQ 14 (.bslice 1 [.int .i64 0] [(0,.const (.int .i64 0)),(1,.const (.int .i64 0)),(2,.const (.int .i64 1)),(3,.const (.int .i64 3)),(4,Z13)] 5) [2],oQ 15 (.call 58 [Z11,Z14]) [0,3,2],oQ 16 (.fld 0 Z3) (uQ 5),nQ (.store 1 Z16 Z15) (5::4::4::uQ 5)]
def l60r3:List AOper :=
 [oQ 17 (.mv Z0) [],oQ 18 (.call 59 [Z17,.const (.int .i64 4)]) [0],oQ 4 (.mv Z18) [1,1,0,1]]
def l60r4:List AOper :=
 [oQ 19 (.mv Z4) [],oQ 20 (.bin .gtr Z19 (.const (.int .i64 0))) [0],oQ 21 (.mv Z20) [1],gQ 22 (.fld 1 Z3) (some (21,true)) [2],gQ 23 (.load false 1 Z22) (some (21,true)) [3,2],gQ 24 (.len Z23) (some (21,true)) [4,2],gQ 25 (.bin .gtr Z24 (.const (.int .i64 0))) (some (21,true)) [5,2],oQ 26 (.pick Z21 Z25 (.const (.bool false))) [2,6]]
def l60r5:List AOper :=
 [oQ 29 (.mv Z0) [],oQ 30 (.fld 1 Z3) [],oQ 31 (.load false 1 Z30) [1],oQ 32 (.len Z31) [2],oQ 33 (.call 59 [Z29,Z32]) [0,3],oQ 5 (.mv Z33) (4::4::uQ 5)]
def l60r6:List AOper :=
 [oQ 34 (.load true 3 Z3) [],oQ 6 (.alloc [.int .i64 0,.slice none 0 0,.slice none 0 0]) [],nQ (.store 3 Z6 Z34) [1,0,0,1]]
def l60r7:List AOper :=
 [oQ 7 (.mv (.const (.bool false))) []]
def l60r8:List AOper :=
 [oQ 35 (.mv Z0) [],oQ 36 (.call 59 [Z35,.const (.int .i64 6)]) [0]]
def l60r9:List AOper :=
 [oQ 47 (.bin .eql Z36 (.const (.int .i64 0))) [],oQ 46 (.mv Z47) [0]]
def l60r10a:List AOper :=
 [oQ 49 (.load true 3 Z3) [],oQ 50 (.mv Z5) [],oQ 51 (.mv Z0) [],oQ 52 (.call 83 [Z51]) [2],oQ 53 (.call 82 [Z49,Z50,Z52]) [0,1,3,3],oQ 48 (.mv Z53) [4],oQ 54 (.extract Z48 0) [5],oQ 55 (.extract Z48 1) [5],nQ (.store 3 Z6 Z54) (6::4::uQ 7)]
def l60r10b:List AOper :=
 [oQ 7 (.mv Z55) (7::8::uQ 9)]
def l60r10:List AOper:=l60r10a++l60r10b
def l60r11:List AOper :=
 [oQ 57 (.bin .eql Z36 (.const (.int .i64 1))) [],oQ 56 (.mv Z57) [0]]
def l60r12:List AOper :=
 [oQ 59 (.load true 3 Z3) [],oQ 60 (.mv Z5) [],oQ 61 (.call 84 [Z59,Z60]) [0,1],oQ 58 (.mv Z61) [2],oQ 62 (.extract Z58 0) [3],oQ 63 (.extract Z58 1) [3],nQ (.store 3 Z6 Z62) (4::2::uQ 5),oQ 7 (.mv Z63) (5::6::uQ 7)]
def l60r13:List AOper :=
 [oQ 65 (.bin .eql Z36 (.const (.int .i64 2))) [],oQ 64 (.mv Z65) [0]]
def l60r14a:List AOper :=
 [oQ 67 (.load true 3 Z3) [],oQ 68 (.fld 1 Z3) [],oQ 69 (.load false 1 Z68) [1],oQ 70 (.len Z69) [2],oQ 71 (.call 87 [Z70]) [3],oQ 72 (.call 86 [Z71]) [4,4],oQ 73 (.call 85 [Z67,Z72]) [0,5,5],oQ 66 (.mv Z73) [6],oQ 74 (.extract Z66 0) [7],oQ 75 (.extract Z66 1) [7],nQ (.store 3 Z6 Z74) (8::6::uQ 9)]
def l60r14b:List AOper :=
 [oQ 7 (.mv Z75) (9::10::uQ 11)]
def l60r14:List AOper:=l60r14a++l60r14b
def l60r15:List AOper :=
 [oQ 77 (.bin .eql Z36 (.const (.int .i64 3))) [],oQ 76 (.mv Z77) [0]]
def l60r16a:List AOper :=
 [oQ 79 (.load true 3 Z3) [],oQ 80 (.mv Z5) [],oQ 81 (.mv Z0) [],oQ 82 (.call 59 [Z81,.const (.int .i64 3)]) [2],oQ 83 (.bin .add (.const (.int .i64 1)) Z82) [3],oQ 84 (.call 88 [Z79,Z80,Z83]) [0,1,4,3],oQ 78 (.mv Z84) [5],oQ 85 (.extract Z78 0) [6],oQ 86 (.extract Z78 1) [6],nQ (.store 3 Z6 Z85) (7::5::uQ 8)]
def l60r16b:List AOper :=
 [oQ 7 (.mv Z86) (8::9::uQ 10)]
def l60r16:List AOper:=l60r16a++l60r16b
def l60r17:List AOper :=
 [oQ 88 (.bin .eql Z36 (.const (.int .i64 4))) [],oQ 87 (.mv Z88) [0]]
def l60r18:List AOper :=
 [oQ 90 (.load true 3 Z3) [],oQ 91 (.mv Z5) [],oQ 92 (.call 89 [Z90,Z91]) [0,1],oQ 89 (.mv Z92) [2],oQ 93 (.extract Z89 0) [3],oQ 94 (.extract Z89 1) [3],nQ (.store 3 Z6 Z93) (4::2::uQ 5),oQ 7 (.mv Z94) (5::6::uQ 7)]
def l60r19:List AOper :=
 [oQ 37 (.load true 3 Z3) [],oQ 38 (.call 90 [Z37]) [0],nQ (.store 3 Z6 Z38) [1,1,0,1]]
def l60r20a:List AOper :=
 [oQ 39 (.fld 2 Z6) [],oQ 40 (.load false 1 Z39) [0],oQ 41 (.mv Z5) [],oQ 42 (.mv Z0) [],oQ 43 (.bslice 1 [.int .i64 0] [(0,.const (.int .i64 0)),(1,.const (.int .i64 2)),(2,.const (.int .i64 3)),(3,.const (.int .i64 1)),(4,.const (.int .i64 (-1))),(5,.const (.int .i64 5))] 6) [],oQ 44 (.call 58 [Z42,Z43]) [3,4]]
def l60r20b:List AOper :=
 [oQ 45 (.idxA 1 Z40 Z41) (1::2::uQ 6),nQ (.store 1 Z45 Z44) (6::5::5::uQ 6)]
def l60r20:List AOper:=l60r20a++l60r20b
def l60r21:List AOper :=
 [oQ 7 (.mv (.const (.bool true))) []]
def l60r22:List AOper :=
 [oQ 95 (.mv Z7) [],oQ 96 (.mv Z95) [0],gQ 97 (.load true 3 Z6) (some (96,true)) [1],gQ 98 (.call 39 [Z97]) (some (96,true)) [2,1,1],oQ 99 (.pick Z96 Z98 (.const (.bool false))) [1,3]]
def l60r23:List AOper :=
 [oQ 100 (.load true 3 Z6) [],nQ (.store 3 Z3 Z100) [0,0]]
def l60r24:List AOper :=
 [oQ 27 (.mv Z4) [],oQ 28 (.bin .sub Z27 (.const (.int .i64 1))) [0],oQ 4 (.mv Z28) [1,0,1]]
def l60r25:List AOper :=
 [oQ 101 (.load true 3 Z3) [],oQ 102 (.call 39 [Z101]) [0],oQ 103 (.un .not Z102) [1]]
def l60r26:List AOper :=
 [oQ 104 (.fld 0 Z3) [],nQ (.store 1 Z104 (.const (.int .i64 0))) [0]]
def l60r27:List AOper :=
 [oQ 105 (.load true 3 Z3) [],nQ (.store 3 Z2 Z105) [0,0]]
def l60:AFn :=
 (AFn.mk 106 1 (.seq (.reg l60r0) (.seq (.reg l60r1) (.seq (.reg l60r2) (.seq (.seq (.reg l60r3) (.block 0 (.loop (.seq (.seq (.reg l60r4) (.cond (.tmp 26) .skip (.exit 0))) (.seq (.block 1 (.seq (.reg l60r5) (.seq (.reg l60r6) (.seq (.reg l60r7) (.seq (.seq (.reg l60r8) (.block 2 (.seq (.reg l60r9) (.cond (.tmp 46) (.draw l60r10) (.seq (.reg l60r11) (.cond (.tmp 56) (.reg l60r12) (.seq (.reg l60r13) (.cond (.tmp 64) (.draw l60r14) (.seq (.reg l60r15) (.cond (.tmp 76) (.draw l60r16) (.seq (.reg l60r17) (.cond (.tmp 87) (.reg l60r18) (.seq (.reg l60r19) (.seq (.draw l60r20) (.reg l60r21))))))))))))))) (.seq (.reg l60r22) (.cond (.tmp 99) (.reg l60r23) .skip))))))) (.reg l60r24)))))) (.seq (.seq (.reg l60r25) (.cond (.tmp 103) (.reg l60r26) .skip)) (.seq (.reg l60r27) .ret)))))) [.cell 2 true 3])
theorem l60_eq:lowFn Tryz.prog 60=some l60:=by kernel_rfl
def l61r0:List AOper :=
 [oQ 2 (.mv (.const (.bool false))) []]
def l61r1:List AOper :=
 [oQ 3 (.mv Z0) [],oQ 4 (.bin .leq (.const (.int .i64 0)) Z3) [0],oQ 5 (.mv Z4) [1],gQ 6 (.mv Z0) (some (5,true)) [2],gQ 7 (.bin .leq Z6 (.const (.int .i64 60))) (some (5,true)) [3,2],oQ 8 (.pick Z5 Z7 (.const (.bool false))) [2,4],oQ 2 (.mv Z8) (5::2::uQ 6)]
def l61:AFn :=
 (AFn.mk 9 1 (.seq (.reg l61r0) (.seq (.reg l61r1) .ret)) [.tmp 2])
theorem l61_eq:lowFn Tryz.prog 61=some l61:=by kernel_rfl
def l62r0:List AOper :=
 [oQ 2 (.mv (.const (.bool false))) []]
def l62r1:List AOper :=
 [oQ 5 (.mv Z0) [],oQ 6 (.len Z5) [0],oQ 7 (.mv (.const (.int .i64 0))) []]
def l62r2:List AOper :=
 [oQ 8 (.bin .lss Z7 Z6) []]
def l62r3:List AOper :=
 [oQ 9 (.idxA 1 Z5 Z7) [],oQ 10 (.load false 1 Z9) [0],oQ 4 (.mv Z10) [1,0,1]]
def l62r4:List AOper :=
 [oQ 11 (.mv Z4) [],oQ 12 (.call 44 [Z11,.const (.int .i64 255)]) [0],oQ 13 (.un .not Z12) [1]]
def l62r5:List AOper :=
 [oQ 2 (.mv (.const (.bool false))) []]
def l62r6:List AOper :=
 [oQ 14 (.bin .add Z7 (.const (.int .i64 1))) [],oQ 7 (.mv Z14) [0]]
def l62r7:List AOper :=
 [oQ 2 (.mv (.const (.bool true))) []]
def l62:AFn :=
 (AFn.mk 15 1 (.seq (.reg l62r0) (.seq (.seq (.reg l62r1) (.block 0 (.loop (.seq (.reg l62r2) (.seq (.cond (.tmp 8) .skip (.exit 0)) (.seq (.block 1 (.seq (.reg l62r3) (.seq (.reg l62r4) (.cond (.tmp 13) (.seq (.reg l62r5) .ret) .skip)))) (.reg l62r6))))))) (.seq (.reg l62r7) .ret))) [.tmp 2])
theorem l62_eq:lowFn Tryz.prog 62=some l62:=by kernel_rfl
def l63r0:List AOper :=
 [oQ 4 (.alloc [.int .i64 0,.int .i64 0,.int .i64 0,.int .i64 0]) []]
def l63r1:List AOper :=
 [oQ 5 (.alloc [.int .i64 0,.int .i64 0,.int .i64 0,.int .i64 0]) []]
def l63r2:List AOper :=
 [oQ 7 (.mv Z0) [],oQ 8 (.len Z7) [0],oQ 9 (.bin .sub Z8 (.const (.int .i64 1))) [1],oQ 6 (.mv Z9) [2,0,1,2]]
def l63r3:List AOper :=
 [oQ 10 (.mv Z6) [],oQ 11 (.bin .geq Z10 (.const (.int .i64 0))) [0]]
def l63r4:List AOper :=
 [oQ 14 (.mv Z6) [],oQ 15 (.mv Z1) [],oQ 16 (.mv Z0) [],oQ 17 (.mv Z6) [],oQ 18 (.idxA 1 Z16 Z17) [2,3],oQ 19 (.load false 1 Z18) [4],oQ 20 (.bin .rem Z15 Z19) [1,5],oQ 21 (.idxP 1 4 Z5 Z14) (0::uQ 7),nQ (.store 1 Z21 Z20) (7::6::uQ 7)]
def l63r5:List AOper :=
 [oQ 22 (.mv Z1) [],oQ 23 (.mv Z0) [],oQ 24 (.mv Z6) [],oQ 25 (.idxA 1 Z23 Z24) [1,2],oQ 26 (.load false 1 Z25) [3],oQ 27 (.bin .quo Z22 Z26) [0,4],oQ 1 (.mv Z27) (5::uQ 6)]
def l63r6:List AOper :=
 [oQ 12 (.mv Z6) [],oQ 13 (.bin .sub Z12 (.const (.int .i64 1))) [0],oQ 6 (.mv Z13) [1,0,1]]
def l63r7:List AOper :=
 [oQ 28 (.load true 4 Z5) [],nQ (.store 4 Z4 Z28) [0,0]]
def l63:AFn :=
 (AFn.mk 29 2 (.seq (.reg l63r0) (.seq (.reg l63r1) (.seq (.seq (.reg l63r2) (.block 0 (.loop (.seq (.seq (.reg l63r3) (.cond (.tmp 11) .skip (.exit 0))) (.seq (.block 1 (.seq (.reg l63r4) (.reg l63r5))) (.reg l63r6)))))) (.seq (.reg l63r7) .ret)))) [.cell 4 true 4])
theorem l63_eq:lowFn Tryz.prog 63=some l63:=by kernel_rfl
def l64r0:List AOper :=
 [oQ 6 (.mv (.const (.bool false))) []]
def l64r1:List AOper :=
 [oQ 7 (.mv (.const (.int .i64 0))) []]
def l64r2:List AOper :=
 [oQ 8 (.mv Z7) [],oQ 9 (.mv Z0) [],oQ 10 (.len Z9) [1],oQ 11 (.bin .lss Z8 Z10) [0,2]]
def l64r3:List AOper :=
 [oQ 14 (.mv Z0) [],oQ 15 (.mv Z7) [],oQ 16 (.idxA 1 Z14 Z15) [0,1],oQ 17 (.load false 1 Z16) [2],oQ 18 (.mv Z1) [],oQ 19 (.mv Z2) [],oQ 20 (.call 66 [Z17,Z18,Z19]) [3,4,5],oQ 21 (.un .not Z20) [6]]
def l64r4:List AOper :=
 [oQ 6 (.mv (.const (.bool false))) []]
def l64r5:List AOper :=
 [oQ 12 (.mv Z7) [],oQ 13 (.bin .add Z12 (.const (.int .i64 1))) [0],oQ 7 (.mv Z13) [1,0,1]]
def l64r6:List AOper :=
 [oQ 6 (.mv (.const (.bool true))) []]
def l64:AFn :=
 (AFn.mk 22 3 (.seq (.reg l64r0) (.seq (.seq (.reg l64r1) (.block 0 (.loop (.seq (.seq (.reg l64r2) (.cond (.tmp 11) .skip (.exit 0))) (.seq (.block 1 (.seq (.reg l64r3) (.cond (.tmp 21) (.seq (.reg l64r4) .ret) .skip))) (.reg l64r5)))))) (.seq (.reg l64r6) .ret))) [.tmp 6])
theorem l64_eq:lowFn Tryz.prog 64=some l64:=by kernel_rfl
def l65r0:List AOper :=
 [oQ 2 (.mv (.const (.bool false))) []]
def l65r1:List AOper :=
 [oQ 3 (.mv Z0) [],oQ 4 (.len Z3) [0],oQ 5 (.bin .leq Z4 (.const (.int .i64 4))) [1],oQ 6 (.mv Z5) [2],gQ 7 (.mv Z0) (some (6,true)) [3],gQ 8 (.call 64 [Z7,.const (.int .i64 0),.const (.int .i64 60)]) (some (6,true)) [4,3,3],oQ 9 (.pick Z6 Z8 (.const (.bool false))) [3,5],oQ 10 (.mv Z9) [6,5],gQ 11 (.mv Z0) (some (10,true)) [7],gQ 12 (.call 67 [Z11]) (some (10,true)) [8,7,7],gQ 13 (.bin .leq Z12 (.const (.int .i64 60))) (some (10,true)) [9,7],oQ 14 (.pick Z10 Z13 (.const (.bool false))) [7,10],oQ 2 (.mv Z14) (11::9::uQ 12)]
def l65:AFn :=
 (AFn.mk 15 1 (.seq (.reg l65r0) (.seq (.reg l65r1) .ret)) [.tmp 2])
theorem l65_eq:lowFn Tryz.prog 65=some l65:=by kernel_rfl
def l66r0:List AOper :=
 [oQ 6 (.mv (.const (.bool false))) []]
def l66r1:List AOper :=
 [oQ 7 (.mv Z1) [],oQ 8 (.mv Z0) [],oQ 9 (.bin .leq Z7 Z8) [0,1],oQ 10 (.mv Z9) [2],gQ 11 (.mv Z0) (some (10,true)) [3],gQ 12 (.mv Z2) (some (10,true)) [3],gQ 13 (.bin .leq Z11 Z12) (some (10,true)) [4,5,3],oQ 14 (.pick Z10 Z13 (.const (.bool false))) [3,6],oQ 6 (.mv Z14) (7::3::uQ 8)]
def l66:AFn :=
 (AFn.mk 15 3 (.seq (.reg l66r0) (.seq (.reg l66r1) .ret)) [.tmp 6])
theorem l66_eq:lowFn Tryz.prog 66=some l66:=by kernel_rfl
def l67r0:List AOper :=
 [oQ 2 (.mv (.const (.int .i64 0))) []]
def l67r1:List AOper :=
 [oQ 3 (.mv (.const (.int .i64 1))) []]
def l67r2:List AOper :=
 [oQ 4 (.mv (.const (.int .i64 0))) []]
def l67r3:List AOper :=
 [oQ 5 (.mv Z4) [],oQ 6 (.mv Z0) [],oQ 7 (.len Z6) [1],oQ 8 (.bin .lss Z5 Z7) [0,2]]
def l67r4:List AOper :=
 [oQ 11 (.mv Z3) [],oQ 12 (.mv Z0) [],oQ 13 (.mv Z4) [],oQ 14 (.idxA 1 Z12 Z13) [1,2],oQ 15 (.load false 1 Z14) [3],oQ 16 (.bin .mul Z11 Z15) [0,4],oQ 3 (.mv Z16) (5::uQ 6)]
def l67r5:List AOper :=
 [oQ 9 (.mv Z4) [],oQ 10 (.bin .add Z9 (.const (.int .i64 1))) [0],oQ 4 (.mv Z10) [1,0,1]]
def l67r6:List AOper :=
 [oQ 17 (.mv Z3) [],oQ 2 (.mv Z17) [0,0]]
def l67:AFn :=
 (AFn.mk 18 1 (.seq (.reg l67r0) (.seq (.reg l67r1) (.seq (.seq (.reg l67r2) (.block 0 (.loop (.seq (.seq (.reg l67r3) (.cond (.tmp 8) .skip (.exit 0))) (.seq (.block 1 (.reg l67r4)) (.reg l67r5)))))) (.seq (.reg l67r6) .ret)))) [.tmp 2])
theorem l67_eq:lowFn Tryz.prog 67=some l67:=by kernel_rfl
def l68r0:List AOper :=
 [oQ 2 (.box Z0) [],oQ 4 (.mv (.const (.int .i64 0))) []]
def l68r1:List AOper :=
 [oQ 7 (.fld 0 Z2) [],oQ 8 (.load false 1 Z7) [0],oQ 5 (.mv Z8) [1,0,1]]
def l68r2:List AOper :=
 [oQ 6 (.mv (.const (.int .i64 0))) []]
def l68r3:List AOper :=
 [oQ 9 (.mv Z6) [],oQ 10 (.mv Z1) [],oQ 11 (.len Z10) [1],oQ 12 (.bin .lss Z9 Z11) [0,2]]
def l68r4a:List AOper :=
 [oQ 15 (.mv Z5) [],oQ 16 (.mv Z1) [],oQ 17 (.mv Z6) [],oQ 18 (.idxA 1 Z16 Z17) [1,2],oQ 19 (.load false 1 Z18) [3],oQ 20 (.fld 2 Z2) [],oQ 21 (.load false 1 Z20) [5],oQ 22 (.mv Z6) [],oQ 23 (.idxA 1 Z21 Z22) [6,7],oQ 24 (.load false 1 Z23) [8],oQ 25 (.bin .mul Z19 Z24) [4,9]]
def l68r4b:List AOper :=
 [oQ 26 (.bin .add Z15 Z25) [0,10],oQ 5 (.mv Z26) (11::uQ 12)]
def l68r4:List AOper:=l68r4a++l68r4b
def l68r5:List AOper :=
 [oQ 13 (.mv Z6) [],oQ 14 (.bin .add Z13 (.const (.int .i64 1))) [0],oQ 6 (.mv Z14) [1,0,1]]
def l68r6:List AOper :=
 [oQ 27 (.mv Z5) [],oQ 4 (.mv Z27) [0,0]]
def l68:AFn :=
 (AFn.mk 28 2 (.seq (.reg l68r0) (.seq (.reg l68r1) (.seq (.seq (.reg l68r2) (.block 0 (.loop (.seq (.seq (.reg l68r3) (.cond (.tmp 12) .skip (.exit 0))) (.seq (.block 1 (.draw l68r4)) (.reg l68r5)))))) (.seq (.reg l68r6) .ret)))) [.tmp 4])
theorem l68_eq:lowFn Tryz.prog 68=some l68:=by kernel_rfl
def l69r0:List AOper :=
 [oQ 4 (.mv (.const (.slice none 0 0))) []]
def l69r1:List AOper :=
 [oQ 7 (.mv Z0) [],oQ 8 (.len Z7) [0],oQ 9 (.mkslice 1 [.int .i64 0] Z8 Z8) [1,1],oQ 5 (.mv Z9) [2,0,1,2]]
def l69r2:List AOper :=
 [oQ 10 (.mv Z0) [],oQ 11 (.len Z10) [0],oQ 12 (.bin .sub Z11 (.const (.int .i64 1))) [1],oQ 6 (.mv Z12) [2,0,1,2]]
def l69r3:List AOper :=
 [oQ 13 (.mv Z6) [],oQ 14 (.bin .geq Z13 (.const (.int .i64 0))) [0]]
def l69r4:List AOper :=
 [oQ 17 (.mv Z5) [],oQ 18 (.mv Z6) [],oQ 19 (.mv Z1) [],oQ 20 (.mv Z0) [],oQ 21 (.mv Z6) [],oQ 22 (.idxA 1 Z20 Z21) [3,4],oQ 23 (.load false 1 Z22) [5],oQ 24 (.bin .rem Z19 Z23) [2,6],oQ 25 (.idxA 1 Z17 Z18) (0::1::uQ 8),nQ (.store 1 Z25 Z24) (8::7::uQ 8)]
def l69r5:List AOper :=
 [oQ 26 (.mv Z1) [],oQ 27 (.mv Z0) [],oQ 28 (.mv Z6) [],oQ 29 (.idxA 1 Z27 Z28) [1,2],oQ 30 (.load false 1 Z29) [3],oQ 31 (.bin .quo Z26 Z30) [0,4],oQ 1 (.mv Z31) (5::uQ 6)]
def l69r6:List AOper :=
 [oQ 15 (.mv Z6) [],oQ 16 (.bin .sub Z15 (.const (.int .i64 1))) [0],oQ 6 (.mv Z16) [1,0,1]]
def l69r7:List AOper :=
 [oQ 32 (.mv Z5) [],oQ 4 (.mv Z32) [0,0]]
def l69:AFn :=
 (AFn.mk 33 2 (.seq (.reg l69r0) (.seq (.reg l69r1) (.seq (.seq (.reg l69r2) (.block 0 (.loop (.seq (.seq (.reg l69r3) (.cond (.tmp 14) .skip (.exit 0))) (.seq (.block 1 (.seq (.reg l69r4) (.reg l69r5))) (.reg l69r6)))))) (.seq (.reg l69r7) .ret)))) [.tmp 4])
theorem l69_eq:lowFn Tryz.prog 69=some l69:=by kernel_rfl
def l70r0:List AOper :=
 [oQ 4 (.mv (.const (.int .i64 0))) []]
def l70r1:List AOper :=
 [oQ 6 (.mv Z0) [],oQ 7 (.len Z6) [0],oQ 8 (.mv (.const (.int .i64 0))) []]
def l70r2:List AOper :=
 [oQ 9 (.bin .lss Z8 Z7) []]
def l70r3:List AOper :=
 [oQ 10 (.mv Z8) [],oQ 5 (.mv Z10) [0,0]]
def l70r4:List AOper :=
 [oQ 11 (.mv Z1) [],oQ 12 (.mv Z0) [],oQ 13 (.mv Z5) [],oQ 14 (.idxA 1 Z12 Z13) [1,2],oQ 15 (.load false 1 Z14) [3],oQ 16 (.bin .eql Z11 Z15) [0,4]]
def l70r5:List AOper :=
 [oQ 17 (.mv Z5) [],oQ 4 (.mv Z17) [0,0]]
def l70r6:List AOper :=
 [oQ 18 (.bin .add Z8 (.const (.int .i64 1))) [],oQ 8 (.mv Z18) [0]]
def l70r7:List AOper :=
 [oQ 4 (.mv (.const (.int .i64 (-1)))) []]
def l70:AFn :=
 (AFn.mk 19 2 (.seq (.reg l70r0) (.seq (.seq (.reg l70r1) (.block 0 (.loop (.seq (.reg l70r2) (.seq (.cond (.tmp 9) .skip (.exit 0)) (.seq (.block 1 (.seq (.reg l70r3) (.seq (.reg l70r4) (.cond (.tmp 16) (.seq (.reg l70r5) .ret) .skip)))) (.reg l70r6))))))) (.seq (.reg l70r7) .ret))) [.tmp 4])
theorem l70_eq:lowFn Tryz.prog 70=some l70:=by kernel_rfl
def l71r0:List AOper :=
 [oQ 2 (.box Z0) [],oQ 4 (.mv (.const (.int .i64 0))) []]
def l71r1:List AOper :=
 [oQ 5 (.mv (.const (.int .i64 0))) []]
def l71r2:List AOper :=
 [oQ 8 (.mv Z1) [],oQ 9 (.len Z8) [0],oQ 10 (.mv (.const (.int .i64 0))) []]
def l71r3:List AOper :=
 [oQ 11 (.bin .lss Z10 Z9) []]
def l71r4:List AOper :=
 [oQ 12 (.mv Z10) [],oQ 13 (.idxA 1 Z8 Z10) [],oQ 14 (.load false 1 Z13) [1],oQ 6 (.mv Z12) [0,0,1,2],oQ 7 (.mv Z14) [2,3,0,1,2,3]]
def l71r5:List AOper :=
 [oQ 15 (.mv Z5) [],oQ 16 (.mv Z6) [],oQ 17 (.idxP 1 4 Z2 Z16) [1],oQ 18 (.load false 1 Z17) [2],oQ 19 (.mv Z7) [],oQ 20 (.bin .mul Z18 Z19) [3,4],oQ 21 (.bin .add Z15 Z20) [0,5],oQ 5 (.mv Z21) (6::uQ 7)]
def l71r6:List AOper :=
 [oQ 22 (.bin .add Z10 (.const (.int .i64 1))) [],oQ 10 (.mv Z22) [0]]
def l71r7:List AOper :=
 [oQ 23 (.mv Z5) [],oQ 4 (.mv Z23) [0,0]]
def l71:AFn :=
 (AFn.mk 24 2 (.seq (.reg l71r0) (.seq (.reg l71r1) (.seq (.seq (.reg l71r2) (.block 0 (.loop (.seq (.reg l71r3) (.seq (.cond (.tmp 11) .skip (.exit 0)) (.seq (.block 1 (.seq (.reg l71r4) (.reg l71r5))) (.reg l71r6))))))) (.seq (.reg l71r7) .ret)))) [.tmp 4])
theorem l71_eq:lowFn Tryz.prog 71=some l71:=by kernel_rfl
def l72r0:List AOper :=
 [oQ 2 (.mv (.const (.bool false))) []]
def l72r1:List AOper :=
 [oQ 5 (.mv Z0) [],oQ 6 (.len Z5) [0],oQ 7 (.mv (.const (.int .i64 0))) []]
def l72r2:List AOper :=
 [oQ 8 (.bin .lss Z7 Z6) []]
def l72r3:List AOper :=
 [oQ 9 (.idxA 1 Z5 Z7) [],oQ 10 (.load false 1 Z9) [0],oQ 4 (.mv Z10) [1,0,1]]
def l72r4:List AOper :=
 [oQ 11 (.mv Z4) [],oQ 12 (.call 44 [Z11,.const (.int .i64 4)]) [0],oQ 13 (.un .not Z12) [1]]
def l72r5:List AOper :=
 [oQ 2 (.mv (.const (.bool false))) []]
def l72r6:List AOper :=
 [oQ 14 (.bin .add Z7 (.const (.int .i64 1))) [],oQ 7 (.mv Z14) [0]]
def l72r7:List AOper :=
 [oQ 2 (.mv (.const (.bool true))) []]
def l72:AFn :=
 (AFn.mk 15 1 (.seq (.reg l72r0) (.seq (.seq (.reg l72r1) (.block 0 (.loop (.seq (.reg l72r2) (.seq (.cond (.tmp 8) .skip (.exit 0)) (.seq (.block 1 (.seq (.reg l72r3) (.seq (.reg l72r4) (.cond (.tmp 13) (.seq (.reg l72r5) .ret) .skip)))) (.reg l72r6))))))) (.seq (.reg l72r7) .ret))) [.tmp 2])
theorem l72_eq:lowFn Tryz.prog 72=some l72:=by kernel_rfl
def l73r0:List AOper :=
 [oQ 0 (.alloc [.int .i64 0,.int .i64 0,.int .i64 0,.int .i64 0,.int .i64 0]) []]
def l73r1:List AOper :=
 [oQ 1 (.alloc [.int .i64 0,.int .i64 0,.int .i64 0,.int .i64 0,.int .i64 0]) []]
def l73r2:List AOper :=
 [oQ 3 (.mv (.const (.int .i64 0))) []]
def l73r3:List AOper :=
 [oQ 4 (.bin .lss Z3 (.const (.int .i64 5))) []]
def l73r4:List AOper :=
 [oQ 5 (.mv Z3) [],oQ 2 (.mv Z5) [0,0]]
def l73r5:List AOper :=
 [oQ 6 (.mv Z2) [],oQ 7 (.idxP 1 5 Z1 Z6) [0,0],nQ (.store 1 Z7 (.const (.int .i64 (-1)))) [1,0]]
def l73r6:List AOper :=
 [oQ 8 (.bin .add Z3 (.const (.int .i64 1))) [],oQ 3 (.mv Z8) [0]]
def l73r7:List AOper :=
 [oQ 9 (.load true 5 Z1) [],nQ (.store 5 Z0 Z9) [0,0]]
def l73:AFn :=
 (AFn.mk 10 0 (.seq (.reg l73r0) (.seq (.reg l73r1) (.seq (.seq (.reg l73r2) (.block 0 (.loop (.seq (.reg l73r3) (.seq (.cond (.tmp 4) .skip (.exit 0)) (.seq (.block 1 (.seq (.reg l73r4) (.reg l73r5))) (.reg l73r6))))))) (.seq (.reg l73r7) .ret)))) [.cell 0 true 5])
theorem l73_eq:lowFn Tryz.prog 73=some l73:=by kernel_rfl
def l74r0:List AOper :=
 [oQ 4 (.alloc [.int .i64 0,.int .i64 0,.int .i64 0,.int .i64 0,.int .i64 0]) [],oQ 5 (.mv (.const (.bool false))) []]
def l74r1:List AOper :=
 [oQ 11 (.call 73 []) [],oQ 6 (.alloc [.int .i64 0,.int .i64 0,.int .i64 0,.int .i64 0,.int .i64 0]) [],nQ (.store 5 Z6 Z11) [1,0,0,0,1]]
def l74r2:List AOper :=
 [oQ 12 (.mv Z0) [],oQ 13 (.len Z12) [0],oQ 14 (.mv (.const (.int .i64 0))) []]
def l74r3:List AOper :=
 [oQ 15 (.bin .lss Z14 Z13) []]
def l74r4:List AOper :=
 [oQ 16 (.mv Z14) [],oQ 17 (.idxA 2 Z12 Z14) [],oQ 18 (.load true 2 Z17) [1],oQ 8 (.alloc [.slice none 0 0,.slice none 0 0]) [],oQ 7 (.mv Z16) [0,0,1,2,3],nQ (.store 2 Z8 Z18) (3::2::4::uQ 5)]
def l74r5a:List AOper :=
 [oQ 19 (.load true 2 Z8) [],oQ 20 (.call 26 [Z19]) [0],oQ 21 (.un .not Z20) [1],oQ 22 (.mv Z21) [2,1],gQ 23 (.mv Z1) (some (22,false)) [3],gQ 24 (.mv Z7) (some (22,false)) [3],gQ 25 (.idxA 1 Z23 Z24) (some (22,false)) [4,5,3],gQ 26 (.load false 1 Z25) (some (22,false)) [6,3],gQ 27 (.len Z26) (some (22,false)) [7,3],gQ 28 (.fld 0 Z8) (some (22,false)) [3],gQ 29 (.load false 1 Z28) (some (22,false)) [9,3],gQ 30 (.len Z29) (some (22,false)) [10,3],gQ 31 (.bin .neq Z27 Z30) (some (22,false)) [8,11,3],oQ 32 (.pick Z22 (.const (.bool true)) Z31) [3,12],oQ 33 (.mv Z32) [13,3],gQ 34 (.mv Z1) (some (33,false)) [14],gQ 35 (.mv Z7) (some (33,false)) [14]]
def l74r5b:List AOper :=
 [gQ 36 (.idxA 1 Z34 Z35) (some (33,false)) [15,16,14],gQ 37 (.load false 1 Z36) (some (33,false)) [17,14],gQ 38 (.call 72 [Z37]) (some (33,false)) [18,14,14],gQ 39 (.un .not Z38) (some (33,false)) [19,14],oQ 40 (.pick Z33 (.const (.bool true)) Z39) [14,20]]
def l74r5:List AOper:=l74r5a++l74r5b
def l74r6:List AOper :=
 [oQ 41 (.load true 5 Z6) [],nQ (.store 5 Z4 Z41) [0,0],oQ 5 (.mv (.const (.bool false))) [1,0,1]]
def l74r7:List AOper :=
 [oQ 42 (.mv Z1) [],oQ 43 (.mv Z7) [],oQ 44 (.idxA 1 Z42 Z43) [0,1],oQ 45 (.load false 1 Z44) [2],oQ 46 (.len Z45) [3],oQ 47 (.mv (.const (.int .i64 0))) []]
def l74r8:List AOper :=
 [oQ 48 (.bin .lss Z47 Z46) []]
def l74r9:List AOper :=
 [oQ 49 (.mv Z47) [],oQ 50 (.idxA 1 Z45 Z47) [],oQ 51 (.load false 1 Z50) [1],oQ 9 (.mv Z49) [0,0,1,2],oQ 10 (.mv Z51) [2,3,0,1,2,3]]
def l74r10a:List AOper :=
 [oQ 52 (.mv Z10) [],oQ 53 (.idxP 1 5 Z6 Z52) [0],oQ 54 (.load false 1 Z53) [1],oQ 55 (.bin .geq Z54 (.const (.int .i64 0))) [2],oQ 56 (.mv Z55) [3],gQ 57 (.mv Z10) (some (56,true)) [4],gQ 58 (.idxP 1 5 Z6 Z57) (some (56,true)) [5,4],gQ 59 (.load false 1 Z58) (some (56,true)) [6,4],gQ 60 (.fld 0 Z8) (some (56,true)) [4],gQ 61 (.load false 1 Z60) (some (56,true)) [8,4],gQ 62 (.mv Z9) (some (56,true)) [4],gQ 63 (.idxA 1 Z61 Z62) (some (56,true)) [9,10,4],gQ 64 (.load false 1 Z63) (some (56,true)) [11,4]]
def l74r10b:List AOper :=
 [gQ 65 (.bin .neq Z59 Z64) (some (56,true)) [7,12,4],oQ 66 (.pick Z56 Z65 (.const (.bool false))) [4,13]]
def l74r10:List AOper:=l74r10a++l74r10b
def l74r11:List AOper :=
 [oQ 67 (.load true 5 Z6) [],nQ (.store 5 Z4 Z67) [0,0],oQ 5 (.mv (.const (.bool false))) [1,0,1]]
def l74r12:List AOper :=
 [oQ 68 (.mv Z10) [],oQ 69 (.fld 0 Z8) [],oQ 70 (.load false 1 Z69) [1],oQ 71 (.mv Z9) [],oQ 72 (.idxA 1 Z70 Z71) [2,3],oQ 73 (.load false 1 Z72) [4],oQ 74 (.idxP 1 5 Z6 Z68) (0::uQ 6),nQ (.store 1 Z74 Z73) (6::5::uQ 6)]
def l74r13:List AOper :=
 [oQ 75 (.bin .add Z47 (.const (.int .i64 1))) [],oQ 47 (.mv Z75) [0]]
def l74r14:List AOper :=
 [oQ 76 (.bin .add Z14 (.const (.int .i64 1))) [],oQ 14 (.mv Z76) [0]]
def l74r15:List AOper :=
 [oQ 77 (.load true 5 Z6) [],nQ (.store 5 Z4 Z77) [0,0],oQ 5 (.mv (.const (.bool true))) [1,0,1]]
def l74:AFn :=
 (AFn.mk 78 2 (.seq (.reg l74r0) (.seq (.reg l74r1) (.seq (.seq (.reg l74r2) (.block 0 (.loop (.seq (.reg l74r3) (.seq (.cond (.tmp 15) .skip (.exit 0)) (.seq (.block 1 (.seq (.reg l74r4) (.seq (.seq (.draw l74r5) (.cond (.tmp 40) (.seq (.reg l74r6) .ret) .skip)) (.seq (.reg l74r7) (.block 2 (.loop (.seq (.reg l74r8) (.seq (.cond (.tmp 48) .skip (.exit 2)) (.seq (.block 3 (.seq (.reg l74r9) (.seq (.seq (.draw l74r10) (.cond (.tmp 66) (.seq (.reg l74r11) .ret) .skip)) (.reg l74r12)))) (.reg l74r13)))))))))) (.reg l74r14))))))) (.seq (.reg l74r15) .ret)))) [.cell 4 true 5,.tmp 5])
theorem l74_eq:lowFn Tryz.prog 74=some l74:=by kernel_rfl
def l75r0:List AOper :=
 [oQ 2 (.box Z0) [],oQ 4 (.alloc [.slice none 0 0,.slice none 0 0,.int .i64 0,.int .i64 0,.int .i64 0,.int .i64 0,.int .i64 0]) []]
def l75r1a:List AOper :=
 [oQ 8 (.fld 1 Z2) [],oQ 9 (.load false 1 Z8) [0],oQ 10 (.mv Z1) [],oQ 11 (.bslice 1 [.slice none 0 0] [(0,Z10)] 1) [2],oQ 12 (.call 54 [Z11]) [3],oQ 13 (.build [.slice none 0 0,.slice none 0 0,.int .i64 0,.int .i64 0,.int .i64 0,.int .i64 0,.int .i64 0] [(0,1,Z9),(1,1,Z12)]) [1,4],oQ 5 (.alloc [.slice none 0 0,.slice none 0 0,.int .i64 0,.int .i64 0,.int .i64 0,.int .i64 0,.int .i64 0]) []]
def l75r1b:List AOper :=
 [nQ (.store 7 Z5 Z13) (6::5::4::uQ 7)]
def l75r1:List AOper:=l75r1a++l75r1b
def l75r2:List AOper :=
 [oQ 14 (.fld 0 Z2) [],oQ 15 (.load false 1 Z14) [0],oQ 16 (.call 91 [Z15]) [1],oQ 17 (.len Z16) [2],oQ 18 (.mv (.const (.int .i64 0))) []]
def l75r3:List AOper :=
 [oQ 19 (.bin .lss Z18 Z17) []]
def l75r4:List AOper :=
 [oQ 20 (.mv Z18) [],oQ 21 (.idxA 1 Z16 Z18) [],oQ 22 (.load false 1 Z21) [1],oQ 6 (.mv Z20) [0,0,1,2],oQ 7 (.mv Z22) [2,3,0,1,2,3]]
def l75r5:List AOper :=
 [oQ 23 (.mv Z1) [],oQ 24 (.mv Z6) [],oQ 25 (.idxA 1 Z23 Z24) [0,1],oQ 26 (.load false 1 Z25) [2],oQ 27 (.fld 2 Z5) [],oQ 28 (.idxP 1 5 Z27 Z26) [4,3],oQ 29 (.load false 1 Z28) [5],oQ 30 (.mv Z7) [],oQ 31 (.bin .add Z29 Z30) [6,7],oQ 32 (.fld 2 Z5) [],oQ 33 (.idxP 1 5 Z32 Z26) (9::3::uQ 9),nQ (.store 1 Z33 Z31) (10::8::uQ 9)]
def l75r6:List AOper :=
 [oQ 34 (.bin .add Z18 (.const (.int .i64 1))) [],oQ 18 (.mv Z34) [0]]
def l75r7:List AOper :=
 [oQ 35 (.load true 7 Z5) [],nQ (.store 7 Z4 Z35) [0,0]]
def l75:AFn :=
 (AFn.mk 36 2 (.seq (.reg l75r0) (.seq (.draw l75r1) (.seq (.seq (.reg l75r2) (.block 0 (.loop (.seq (.reg l75r3) (.seq (.cond (.tmp 19) .skip (.exit 0)) (.seq (.block 1 (.seq (.reg l75r4) (.reg l75r5))) (.reg l75r6))))))) (.seq (.reg l75r7) .ret)))) [.cell 4 true 7])
theorem l75_eq:lowFn Tryz.prog 75=some l75:=by kernel_rfl
def l76r0:List AOper :=
 [oQ 2 (.box Z0) [],oQ 3 (.box Z1) [],oQ 4 (.mv (.const (.int .i64 0))) []]
def l76r1a:List AOper :=
 [oQ 5 (.fld 0 Z2) [],oQ 6 (.load false 1 Z5) [0],oQ 7 (.fld 1 Z2) [],oQ 8 (.load false 1 Z7) [2],oQ 9 (.load true 5 Z3) [],oQ 10 (.mkfn (Fn.func 93) [Z9] []) [4],oQ 11 (.fld 2 Z2) [],oQ 12 (.load true 5 Z11) [6],oQ 13 (.mkfn (Fn.func 93) [Z12] []) [7],oQ 14 (.bslice 1 [.nilFunc] [(0,Z10),(1,Z13)] 2) [5,8],oQ 15 (.call 92 [Z8,Z14]) [3,9]]
def l76r1b:List AOper :=
 [oQ 16 (.idxA 1 Z6 Z15) [1,10],oQ 17 (.load false 1 Z16) [11],oQ 4 (.mv Z17) (12::10::uQ 13)]
def l76r1:List AOper:=l76r1a++l76r1b
def l76:AFn :=
 (AFn.mk 18 2 (.seq (.reg l76r0) (.seq (.draw l76r1) .ret)) [.tmp 4])
theorem l76_eq:lowFn Tryz.prog 76=some l76:=by kernel_rfl
def l77r0:List AOper :=
 [oQ 4 (.mv (.const (.slice none 0 0))) []]
def l77r1:List AOper :=
 [oQ 5 (.mv (.const (.slice none 0 0))) []]
def l77r2:List AOper :=
 [oQ 8 (.mv Z0) [],oQ 9 (.len Z8) [0],oQ 10 (.mv (.const (.int .i64 0))) []]
def l77r3:List AOper :=
 [oQ 11 (.bin .lss Z10 Z9) []]
def l77r4:List AOper :=
 [oQ 12 (.idxA 1 Z8 Z10) [],oQ 13 (.load false 1 Z12) [0],oQ 7 (.mv Z13) [1,0,1]]
def l77r5:List AOper :=
 [oQ 14 (.mv Z1) [],oQ 15 (.mv Z7) [],oQ 16 (.call 47 [Z14,Z15]) [0,1],oQ 17 (.un .not Z16) [2]]
def l77r6:List AOper :=
 [oQ 18 (.mv Z5) [],oQ 19 (.mv Z7) [],oQ 20 (.bslice 1 [.int .i64 0] [(0,Z19)] 1) [1],oQ 21 (.append 1 Z18 Z20) [0,2],oQ 5 (.mv Z21) [3,3,0,1,2,3]]
def l77r7:List AOper :=
 [oQ 22 (.bin .add Z10 (.const (.int .i64 1))) [],oQ 10 (.mv Z22) [0]]
def l77r8:List AOper :=
 [oQ 23 (.mv Z5) [],oQ 4 (.mv Z23) [0,0]]
def l77:AFn :=
 (AFn.mk 24 2 (.seq (.reg l77r0) (.seq (.reg l77r1) (.seq (.seq (.reg l77r2) (.block 0 (.loop (.seq (.reg l77r3) (.seq (.cond (.tmp 11) .skip (.exit 0)) (.seq (.block 1 (.seq (.reg l77r4) (.seq (.reg l77r5) (.cond (.tmp 17) (.reg l77r6) .skip)))) (.reg l77r7))))))) (.seq (.reg l77r8) .ret)))) [.tmp 4])
theorem l77_eq:lowFn Tryz.prog 77=some l77:=by kernel_rfl
def l78r0:List AOper :=
 [oQ 3 (.box Z0) [],oQ 5 (.box Z2) [],oQ 6 (.mv (.const (.slice none 0 0))) []]
def l78r1:List AOper :=
 [oQ 12 (.load true 5 Z3) [],oQ 13 (.mv Z1) [],oQ 14 (.call 56 [Z12,Z13]) [0,1],oQ 15 (.call 49 [Z14]) [2,2],oQ 16 (.mkslice 5 [.int .i64 0,.int .i64 0,.int .i64 0,.int .i64 0,.int .i64 0] Z15 Z15) [3,3],oQ 7 (.alloc [.slice none 0 0]) [],nQ (.store 1 Z7 Z16) (5::4::3::uQ 6)]
def l78r2:List AOper :=
 [oQ 17 (.load false 1 Z7) [],oQ 18 (.len Z17) [0],oQ 19 (.mv (.const (.int .i64 0))) []]
def l78r3:List AOper :=
 [oQ 20 (.bin .lss Z19 Z18) []]
def l78r4:List AOper :=
 [oQ 21 (.mv Z19) [],oQ 8 (.alloc [.int .i64 0]) [],nQ (.store 1 Z8 Z21) [1,0,0,1]]
def l78r5:List AOper :=
 [oQ 22 (.load false 1 Z7) [],oQ 23 (.load false 1 Z8) [],oQ 24 (.load true 5 Z5) [],oQ 25 (.idxA 5 Z22 Z23) [0,1,0,1,2],nQ (.store 5 Z25 Z24) [3,2,0,1,2]]
def l78r6:List AOper :=
 [oQ 26 (.load false 1 Z8) [],oQ 9 (.alloc [.int .i64 0]) [],nQ (.store 1 Z9 Z26) [1,0,0,1]]
def l78r7:List AOper :=
 [oQ 27 (.mv Z1) [],oQ 28 (.call 94 [Z27]) [0]]
def l78r8:List AOper :=
 [oQ 11 (.mv Z30) []]
def l78r9a:List AOper :=
 [oQ 31 (.load false 1 Z7) [],oQ 32 (.load false 1 Z8) [],oQ 33 (.mv Z11) [],oQ 34 (.load false 1 Z9) [],oQ 35 (.mv Z11) [],oQ 36 (.idxP 1 5 Z3 Z35) [4],oQ 37 (.load false 1 Z36) [5],oQ 38 (.bin .rem Z34 Z37) [3,6],oQ 39 (.idxA 5 Z31 Z32) [0,1]]
def l78r9b:List AOper :=
 [oQ 40 (.idxP 1 5 Z39 Z33) (8::2::uQ 8),nQ (.store 1 Z40 Z38) (9::7::uQ 8)]
def l78r9:List AOper:=l78r9a++l78r9b
def l78r10a:List AOper :=
 [oQ 41 (.load false 1 Z9) [],oQ 42 (.mv Z11) [],oQ 43 (.idxP 1 5 Z3 Z42) [1],oQ 44 (.load false 1 Z43) [2]]
def l78r10b:List AOper :=
 [oQ 45 (.bin .quo Z41 Z44) [0,3],nQ (.store 1 Z9 Z45) (4::uQ 5)]
def l78r10:List AOper:=l78r10a++l78r10b
def l78r11:List AOper :=
 [oQ 46 (.bin .add Z19 (.const (.int .i64 1))) [],oQ 19 (.mv Z46) [0]]
def l78r12:List AOper :=
 [oQ 47 (.load false 1 Z7) [],oQ 6 (.mv Z47) [0,0]]
def l78:AFn :=
 (AFn.mk 48 3 (.seq (.reg l78r0) (.seq (.reg l78r1) (.seq (.seq (.reg l78r2) (.block 0 (.loop (.seq (.reg l78r3) (.seq (.cond (.tmp 20) .skip (.exit 0)) (.seq (.block 1 (.seq (.reg l78r4) (.seq (.reg l78r5) (.seq (.reg l78r6) (.seq (.reg l78r7) (.block 2 (.rf (.tmp 28) [29,30] (.reg l78r8) (.block 3 (.seq (.draw l78r9) (.draw l78r10)))))))))) (.reg l78r11))))))) (.seq (.reg l78r12) .ret)))) [.tmp 6])
theorem l78_eq:lowFn Tryz.prog 78=some l78:=by kernel_rfl
def l79r0:List AOper :=
 [oQ 4 (.mv (.const (.int .i64 0))) []]
def l79r1:List AOper :=
 [oQ 5 (.mv (.const (.int .i64 0))) []]
def l79r2:List AOper :=
 [oQ 11 (.mv Z0) [],oQ 12 (.len Z11) [0],oQ 13 (.mv (.const (.int .i64 0))) []]
def l79r3:List AOper :=
 [oQ 14 (.bin .lss Z13 Z12) []]
def l79r4:List AOper :=
 [oQ 15 (.idxA 5 Z11 Z13) [],oQ 16 (.load true 5 Z15) [0],oQ 7 (.alloc [.int .i64 0,.int .i64 0,.int .i64 0,.int .i64 0,.int .i64 0]) [],nQ (.store 5 Z7 Z16) [2,1,0,1,2]]
def l79r5:List AOper :=
 [oQ 8 (.mv (.const (.int .i64 1))) []]
def l79r6:List AOper :=
 [oQ 17 (.mv Z1) [],oQ 18 (.len Z17) [0],oQ 19 (.mv (.const (.int .i64 0))) []]
def l79r7:List AOper :=
 [oQ 20 (.bin .lss Z19 Z18) []]
def l79r8:List AOper :=
 [oQ 21 (.idxA 1 Z17 Z19) [],oQ 22 (.load false 1 Z21) [0],oQ 10 (.mv Z22) [1,0,1]]
def l79r9:List AOper :=
 [oQ 23 (.mv Z8) [],oQ 24 (.mv Z10) [],oQ 25 (.load true 5 Z7) [],oQ 26 (.raw (Op.call (Call.mk (Callee.value Z24) (Array.mk [Z25]) (Array.mk [81])))) [1,2],oQ 27 (.bin .mul Z23 Z26) [0,3],oQ 8 (.mv Z27) (4::3::uQ 5)]
def l79r10:List AOper :=
 [oQ 28 (.bin .add Z19 (.const (.int .i64 1))) [],oQ 19 (.mv Z28) [0]]
def l79r11:List AOper :=
 [oQ 29 (.mv Z5) [],oQ 30 (.mv Z8) [],oQ 31 (.bin .add Z29 Z30) [0,1],oQ 5 (.mv Z31) [2,0,1,2]]
def l79r12:List AOper :=
 [oQ 32 (.bin .add Z13 (.const (.int .i64 1))) [],oQ 13 (.mv Z32) [0]]
def l79r13:List AOper :=
 [oQ 33 (.mv Z5) [],oQ 4 (.mv Z33) [0,0]]
def l79:AFn :=
 (AFn.mk 34 2 (.seq (.reg l79r0) (.seq (.reg l79r1) (.seq (.seq (.reg l79r2) (.block 0 (.loop (.seq (.reg l79r3) (.seq (.cond (.tmp 14) .skip (.exit 0)) (.seq (.block 1 (.seq (.reg l79r4) (.seq (.reg l79r5) (.seq (.seq (.reg l79r6) (.block 2 (.loop (.seq (.reg l79r7) (.seq (.cond (.tmp 20) .skip (.exit 2)) (.seq (.block 3 (.seq (.reg l79r8) (.reg l79r9))) (.reg l79r10))))))) (.reg l79r11))))) (.reg l79r12))))))) (.seq (.reg l79r13) .ret)))) [.tmp 4])
theorem l79_eq:lowFn Tryz.prog 79=some l79:=by kernel_rfl
def l80r0:List AOper :=
 [oQ 2 (.alloc [.int .i64 0,.slice none 0 0,.slice none 0 0]) []]
def l80r1:List AOper :=
 [oQ 3 (.mv Z0) [],oQ 4 (.call 65 [Z3]) [0],oQ 5 (.un .not Z4) [1]]
def l80r2:List AOper :=
 [oQ 6 (.build [.int .i64 0,.slice none 0 0,.slice none 0 0] []) [],nQ (.store 3 Z2 Z6) [0,0]]
def l80r3:List AOper :=
 [oQ 7 (.mv Z0) [],oQ 8 (.call 67 [Z7]) [0],oQ 9 (.bin .eql Z8 (.const (.int .i64 0))) [1]]
def l80r4a:List AOper :=
 [oQ 10 (.mv Z0) [],oQ 11 (.call 20 [Z10]) [0],oQ 12 (.mv Z0) [],oQ 13 (.len Z12) [2],oQ 14 (.mkslice 1 [.int .i64 0] Z13 Z13) [3,3]]
def l80r4b:List AOper :=
 [oQ 15 (.build [.int .i64 0,.slice none 0 0,.slice none 0 0] [(1,1,Z11),(2,1,Z14)]) [1,4],nQ (.store 3 Z2 Z15) (5::1::uQ 6)]
def l80r4:List AOper:=l80r4a++l80r4b
def l80r5:List AOper :=
 [oQ 16 (.mv Z0) [],oQ 17 (.call 20 [Z16]) [0],oQ 18 (.mv Z0) [],oQ 19 (.call 95 [Z18]) [2,1],oQ 20 (.build [.int .i64 0,.slice none 0 0,.slice none 0 0] [(1,1,Z17),(2,1,Z19)]) [1,3],nQ (.store 3 Z2 Z20) (4::3::uQ 5)]
def l80:AFn :=
 (AFn.mk 21 1 (.seq (.reg l80r0) (.seq (.seq (.reg l80r1) (.cond (.tmp 5) (.seq (.reg l80r2) .ret) .skip)) (.seq (.seq (.reg l80r3) (.cond (.tmp 9) (.seq (.draw l80r4) .ret) .skip)) (.seq (.reg l80r5) .ret)))) [.cell 2 true 3])
theorem l80_eq:lowFn Tryz.prog 80=some l80:=by kernel_rfl
def l81r0:List AOper :=
 [oQ 2 (.mv (.const (.slice none 0 0))) []]
def l81r1:List AOper :=
 [oQ 6 (.bslice 1 [.int .i64 0] [] 0) [],oQ 3 (.mv Z6) [0,0]]
def l81r2:List AOper :=
 [oQ 7 (.mv Z0) [],oQ 8 (.bslice 1 [.int .i64 0] [(0,.const (.int .i64 2)),(1,.const (.int .i64 1)),(2,.const (.int .i64 3)),(3,.const (.int .i64 2)),(4,.const (.int .i64 0)),(5,.const (.int .i64 4))] 6) [],oQ 9 (.call 58 [Z7,Z8]) [0,1],oQ 4 (.mv Z9) [2,2,0,1,2]]
def l81r3:List AOper :=
 [oQ 10 (.mv Z4) [],oQ 11 (.bin .gtr Z10 (.const (.int .i64 0))) [0]]
def l81r4:List AOper :=
 [oQ 14 (.mv Z0) [],oQ 15 (.bslice 1 [.int .i64 0] [(0,.const (.int .i64 2)),(1,.const (.int .i64 3)),(2,.const (.int .i64 1)),(3,.const (.int .i64 4)),(4,.const (.int .i64 2)),(5,.const (.int .i64 3)),(6,.const (.int .i64 5)),(7,.const (.int .i64 0))] 8) [],oQ 16 (.call 58 [Z14,Z15]) [0,1],oQ 5 (.mv Z16) [2,2,0,1,2]]
def l81r5:List AOper :=
 [oQ 17 (.mv Z3) [],oQ 18 (.call 67 [Z17]) [0],oQ 19 (.mv Z5) [],oQ 20 (.bin .mul Z18 Z19) [1,2],oQ 21 (.bin .leq Z20 (.const (.int .i64 60))) [3]]
def l81r6:List AOper :=
 [oQ 22 (.mv Z3) [],oQ 23 (.mv Z5) [],oQ 24 (.bslice 1 [.int .i64 0] [(0,Z23)] 1) [1],oQ 25 (.append 1 Z22 Z24) [0,2],oQ 3 (.mv Z25) [3,3,0,1,2,3]]
def l81r7:List AOper :=
 [oQ 12 (.mv Z4) [],oQ 13 (.bin .sub Z12 (.const (.int .i64 1))) [0],oQ 4 (.mv Z13) [1,0,1]]
def l81r8:List AOper :=
 [oQ 26 (.mv Z3) [],oQ 2 (.mv Z26) [0,0]]
def l81:AFn :=
 (AFn.mk 27 1 (.seq (.reg l81r0) (.seq (.reg l81r1) (.seq (.seq (.reg l81r2) (.block 0 (.loop (.seq (.seq (.reg l81r3) (.cond (.tmp 11) .skip (.exit 0))) (.seq (.block 1 (.seq (.reg l81r4) (.seq (.reg l81r5) (.cond (.tmp 21) (.reg l81r6) .skip)))) (.reg l81r7)))))) (.seq (.reg l81r8) .ret)))) [.tmp 2])
theorem l81_eq:lowFn Tryz.prog 81=some l81:=by kernel_rfl
def l82r0:List AOper :=
 [oQ 3 (.box Z0) [],oQ 5 (.box Z2) [],oQ 6 (.alloc [.int .i64 0,.slice none 0 0,.slice none 0 0]) [],oQ 7 (.mv (.const (.bool false))) []]
def l82r1:List AOper :=
 [oQ 8 (.load true 3 Z3) [],oQ 9 (.call 39 [Z8]) [0],oQ 10 (.un .not Z9) [1],oQ 11 (.mv Z10) [2,1],gQ 12 (.load true 3 Z3) (some (11,false)) [3],gQ 13 (.mv Z1) (some (11,false)) [3],gQ 14 (.call 96 [Z12,Z13]) (some (11,false)) [4,5,3,3],gQ 15 (.un .not Z14) (some (11,false)) [6,3],oQ 16 (.pick Z11 (.const (.bool true)) Z15) [3,7],oQ 17 (.mv Z16) [8,6],gQ 18 (.load true 5 Z5) (some (17,false)) [9],gQ 19 (.call 97 [Z18]) (some (17,false)) [10,9,9],gQ 20 (.un .not Z19) (some (17,false)) [11,9],oQ 21 (.pick Z17 (.const (.bool true)) Z20) [9,12]]
def l82r2:List AOper :=
 [oQ 22 (.build [.int .i64 0,.slice none 0 0,.slice none 0 0] []) [],nQ (.store 3 Z6 Z22) [0,0],oQ 7 (.mv (.const (.bool false))) [1,0,1]]
def l82r3:List AOper :=
 [oQ 23 (.load true 3 Z3) [],oQ 24 (.mv Z1) [],oQ 25 (.load true 5 Z5) [],oQ 26 (.call 99 [Z23,Z24,Z25]) [0,1,2],oQ 27 (.call 98 [Z26]) [3,3],oQ 28 (.extract Z27 0) [4],oQ 29 (.extract Z27 1) [4],nQ (.store 3 Z6 Z28) (5::4::uQ 7),oQ 7 (.mv Z29) (6::7::uQ 8)]
def l82:AFn :=
 (AFn.mk 30 3 (.seq (.reg l82r0) (.seq (.seq (.reg l82r1) (.cond (.tmp 21) (.seq (.reg l82r2) .ret) .skip)) (.seq (.reg l82r3) .ret))) [.cell 6 true 3,.tmp 7])
theorem l82_eq:lowFn Tryz.prog 82=some l82:=by kernel_rfl
def l83r0:List AOper :=
 [oQ 2 (.alloc [.int .i64 0,.int .i64 0,.int .i64 0,.bool false,.bool false]) []]
def l83r1:List AOper :=
 [oQ 4 (.mv Z0) [],oQ 5 (.bslice 1 [.int .i64 0] [(0,.const (.int .i64 1)),(1,.const (.int .i64 2)),(2,.const (.int .i64 (-1))),(3,.const (.int .i64 3)),(4,.const (.int .i64 (-2))),(5,.const (.int .i64 1)),(6,.const (.int .i64 5))] 7) [],oQ 6 (.call 58 [Z4,Z5]) [0,1],oQ 7 (.build [.int .i64 0,.int .i64 0,.int .i64 0,.bool false,.bool false] [(2,1,Z6)]) [2],oQ 3 (.alloc [.int .i64 0,.int .i64 0,.int .i64 0,.bool false,.bool false]) [],nQ (.store 5 Z3 Z7) (4::3::2::uQ 5)]
def l83r2:List AOper :=
 [oQ 8 (.mv Z0) [],oQ 9 (.call 59 [Z8,.const (.int .i64 2)]) [0],oQ 10 (.bin .eql Z9 (.const (.int .i64 0))) [1]]
def l83r3:List AOper :=
 [oQ 11 (.fld 3 Z3) [],nQ (.store 1 Z11 (.const (.bool true))) [0]]
def l83r4:List AOper :=
 [oQ 12 (.mv Z0) [],oQ 13 (.mv Z0) [],oQ 14 (.call 59 [Z13,.const (.int .i64 12)]) [1],oQ 15 (.bslice 1 [.int .i64 0] [(0,.const (.int .i64 1)),(1,.const (.int .i64 2)),(2,.const (.int .i64 0)),(3,.const (.int .i64 (-1))),(4,.const (.int .i64 (-3))),(5,Z14),(6,.const (.int .i64 30)),(7,.const (.int .i64 (-30)))] 8) [2],oQ 16 (.call 58 [Z12,Z15]) [0,3,2],oQ 17 (.fld 0 Z3) (uQ 5),nQ (.store 1 Z17 Z16) (5::4::4::uQ 5)]
def l83r5:List AOper :=
 [oQ 18 (.mv Z0) [],oQ 19 (.call 59 [Z18,.const (.int .i64 2)]) [0],oQ 20 (.bin .eql Z19 (.const (.int .i64 0))) [1]]
def l83r6:List AOper :=
 [oQ 21 (.fld 4 Z3) [],nQ (.store 1 Z21 (.const (.bool true))) [0]]
def l83r7:List AOper :=
 [oQ 22 (.mv Z0) [],oQ 23 (.mv Z0) [],oQ 24 (.call 59 [Z23,.const (.int .i64 12)]) [1],oQ 25 (.bslice 1 [.int .i64 0] [(0,.const (.int .i64 4)),(1,.const (.int .i64 3)),(2,.const (.int .i64 (-1))),(3,.const (.int .i64 (-2))),(4,.const (.int .i64 0)),(5,Z24),(6,.const (.int .i64 30)),(7,.const (.int .i64 (-30)))] 8) [2],oQ 26 (.call 58 [Z22,Z25]) [0,3,2],oQ 27 (.fld 1 Z3) (uQ 5),nQ (.store 1 Z27 Z26) (5::4::4::uQ 5)]
def l83r8:List AOper :=
 [oQ 28 (.mv Z0) [],oQ 29 (.call 59 [Z28,.const (.int .i64 24)]) [0]]
def l83r9:List AOper :=
 [oQ 31 (.bin .eql Z29 (.const (.int .i64 0))) [],oQ 30 (.mv Z31) [0]]
def l83r10:List AOper :=
 [oQ 32 (.mv Z0) [],oQ 33 (.bslice 1 [.int .i64 0] [(0,.const (.int .i64 0)),(1,.const (.int .i64 201))] 2) [],oQ 34 (.call 58 [Z32,Z33]) [0,1],oQ 35 (.fld 2 Z3) [0,1,2],nQ (.store 1 Z35 Z34) [3,2,2,0,1,2]]
def l83r11:List AOper :=
 [oQ 37 (.bin .eql Z29 (.const (.int .i64 1))) [],oQ 36 (.mv Z37) [0]]
def l83r12:List AOper :=
 [oQ 38 (.fld 0 Z3) [],nQ (.store 1 Z38 (.const (.int .i64 101))) [0]]
def l83r13:List AOper :=
 [oQ 40 (.bin .eql Z29 (.const (.int .i64 2))) [],oQ 39 (.mv Z40) [0]]
def l83r14:List AOper :=
 [oQ 41 (.mv Z0) [],oQ 42 (.bslice 1 [.int .i64 0] [(0,.const (.int .i64 1)),(1,.const (.int .i64 (-101)))] 2) [],oQ 43 (.call 58 [Z41,Z42]) [0,1],oQ 44 (.fld 1 Z3) [0,1,2],nQ (.store 1 Z44 Z43) [3,2,2,0,1,2]]
def l83r15:List AOper :=
 [oQ 45 (.load true 5 Z3) [],nQ (.store 5 Z2 Z45) [0,0]]
def l83:AFn :=
 (AFn.mk 46 1 (.seq (.reg l83r0) (.seq (.reg l83r1) (.seq (.seq (.reg l83r2) (.cond (.tmp 10) (.seq (.reg l83r3) (.reg l83r4)) .skip)) (.seq (.seq (.reg l83r5) (.cond (.tmp 20) (.seq (.reg l83r6) (.reg l83r7)) .skip)) (.seq (.seq (.reg l83r8) (.block 0 (.seq (.reg l83r9) (.cond (.tmp 30) (.reg l83r10) (.seq (.reg l83r11) (.cond (.tmp 36) (.reg l83r12) (.seq (.reg l83r13) (.cond (.tmp 39) (.reg l83r14) .skip)))))))) (.seq (.reg l83r15) .ret)))))) [.cell 2 true 5])
theorem l83_eq:lowFn Tryz.prog 83=some l83:=by kernel_rfl
def l84r0:List AOper :=
 [oQ 2 (.box Z0) [],oQ 4 (.alloc [.int .i64 0,.slice none 0 0,.slice none 0 0]) [],oQ 5 (.mv (.const (.bool false))) []]
def l84r1:List AOper :=
 [oQ 6 (.load true 3 Z2) [],oQ 7 (.mv Z1) [],oQ 8 (.build [.int .i64 0,.int .i64 0,.int .i64 0,.bool false,.bool false] [(2,1,.const (.int .i64 (-1)))]) [],oQ 9 (.call 82 [Z6,Z7,Z8]) [0,1,2],oQ 10 (.extract Z9 0) [3],oQ 11 (.extract Z9 1) [3],nQ (.store 3 Z4 Z10) (4::3::uQ 6),oQ 5 (.mv Z11) (5::6::uQ 7)]
def l84:AFn :=
 (AFn.mk 12 2 (.seq (.reg l84r0) (.seq (.reg l84r1) .ret)) [.cell 4 true 3,.tmp 5])
theorem l84_eq:lowFn Tryz.prog 84=some l84:=by kernel_rfl
def l85r0:List AOper :=
 [oQ 2 (.box Z0) [],oQ 4 (.alloc [.int .i64 0,.slice none 0 0,.slice none 0 0]) [],oQ 5 (.mv (.const (.bool false))) []]
def l85r1:List AOper :=
 [oQ 6 (.load true 3 Z2) [],oQ 7 (.call 39 [Z6]) [0],oQ 8 (.un .not Z7) [1],oQ 9 (.mv Z8) [2,1],gQ 10 (.mv Z1) (some (9,false)) [3],gQ 11 (.fld 1 Z2) (some (9,false)) [3],gQ 12 (.load false 1 Z11) (some (9,false)) [5,3],gQ 13 (.len Z12) (some (9,false)) [6,3],gQ 14 (.call 100 [Z10,Z13]) (some (9,false)) [4,7,3,3],gQ 15 (.un .not Z14) (some (9,false)) [8,3],oQ 16 (.pick Z9 (.const (.bool true)) Z15) [3,9]]
def l85r2:List AOper :=
 [oQ 17 (.build [.int .i64 0,.slice none 0 0,.slice none 0 0] []) [],nQ (.store 3 Z4 Z17) [0,0],oQ 5 (.mv (.const (.bool false))) [1,0,1]]
def l85r3:List AOper :=
 [oQ 18 (.load true 3 Z2) [],oQ 19 (.mv Z1) [],oQ 20 (.call 101 [Z18,Z19]) [0,1],oQ 21 (.call 98 [Z20]) [2,2],oQ 22 (.extract Z21 0) [3],oQ 23 (.extract Z21 1) [3],nQ (.store 3 Z4 Z22) (4::3::uQ 6),oQ 5 (.mv Z23) (5::6::uQ 7)]
def l85:AFn :=
 (AFn.mk 24 2 (.seq (.reg l85r0) (.seq (.seq (.reg l85r1) (.cond (.tmp 16) (.seq (.reg l85r2) .ret) .skip)) (.seq (.reg l85r3) .ret))) [.cell 4 true 3,.tmp 5])
theorem l85_eq:lowFn Tryz.prog 85=some l85:=by kernel_rfl
def l86r0:List AOper :=
 [oQ 2 (.mv (.const (.slice none 0 0))) []]
def l86r1:List AOper :=
 [oQ 5 (.bslice 1 [.int .i64 0] [] 0) [],oQ 3 (.mv Z5) [0,0]]
def l86r2:List AOper :=
 [oQ 6 (.mv Z0) [],oQ 7 (.len Z6) [0],oQ 8 (.bin .sub Z7 (.const (.int .i64 1))) [1],oQ 4 (.mv Z8) [2,0,1,2]]
def l86r3:List AOper :=
 [oQ 9 (.mv Z4) [],oQ 10 (.bin .geq Z9 (.const (.int .i64 0))) [0]]
def l86r4:List AOper :=
 [oQ 13 (.mv Z3) [],oQ 14 (.mv Z0) [],oQ 15 (.mv Z4) [],oQ 16 (.idxA 1 Z14 Z15) [1,2],oQ 17 (.load false 1 Z16) [3],oQ 18 (.bslice 1 [.int .i64 0] [(0,Z17)] 1) [4],oQ 19 (.append 1 Z13 Z18) [0,5],oQ 3 (.mv Z19) (6::6::uQ 7)]
def l86r5:List AOper :=
 [oQ 11 (.mv Z4) [],oQ 12 (.bin .sub Z11 (.const (.int .i64 1))) [0],oQ 4 (.mv Z12) [1,0,1]]
def l86r6:List AOper :=
 [oQ 20 (.mv Z3) [],oQ 2 (.mv Z20) [0,0]]
def l86:AFn :=
 (AFn.mk 21 1 (.seq (.reg l86r0) (.seq (.reg l86r1) (.seq (.seq (.reg l86r2) (.block 0 (.loop (.seq (.seq (.reg l86r3) (.cond (.tmp 10) .skip (.exit 0))) (.seq (.block 1 (.reg l86r4)) (.reg l86r5)))))) (.seq (.reg l86r6) .ret)))) [.tmp 2])
theorem l86_eq:lowFn Tryz.prog 86=some l86:=by kernel_rfl
def l87r0:List AOper :=
 [oQ 2 (.mv (.const (.slice none 0 0))) []]
def l87r1:List AOper :=
 [oQ 5 (.bslice 1 [.int .i64 0] [] 0) [],oQ 3 (.mv Z5) [0,0]]
def l87r2:List AOper :=
 [oQ 4 (.mv (.const (.int .i64 0))) []]
def l87r3:List AOper :=
 [oQ 6 (.mv Z4) [],oQ 7 (.mv Z0) [],oQ 8 (.bin .lss Z6 Z7) [0,1]]
def l87r4:List AOper :=
 [oQ 11 (.mv Z3) [],oQ 12 (.mv Z4) [],oQ 13 (.bslice 1 [.int .i64 0] [(0,Z12)] 1) [1],oQ 14 (.append 1 Z11 Z13) [0,2],oQ 3 (.mv Z14) [3,3,0,1,2,3]]
def l87r5:List AOper :=
 [oQ 9 (.mv Z4) [],oQ 10 (.bin .add Z9 (.const (.int .i64 1))) [0],oQ 4 (.mv Z10) [1,0,1]]
def l87r6:List AOper :=
 [oQ 15 (.mv Z3) [],oQ 2 (.mv Z15) [0,0]]
def l87:AFn :=
 (AFn.mk 16 1 (.seq (.reg l87r0) (.seq (.reg l87r1) (.seq (.seq (.reg l87r2) (.block 0 (.loop (.seq (.seq (.reg l87r3) (.cond (.tmp 8) .skip (.exit 0))) (.seq (.block 1 (.reg l87r4)) (.reg l87r5)))))) (.seq (.reg l87r6) .ret)))) [.tmp 2])
theorem l87_eq:lowFn Tryz.prog 87=some l87:=by kernel_rfl
def l88r0:List AOper :=
 [oQ 3 (.box Z0) [],oQ 6 (.alloc [.int .i64 0,.slice none 0 0,.slice none 0 0]) [],oQ 7 (.mv (.const (.bool false))) []]
def l88r1:List AOper :=
 [oQ 9 (.load true 3 Z3) [],oQ 10 (.call 39 [Z9]) [0],oQ 11 (.un .not Z10) [1],oQ 12 (.mv Z11) [2,1],gQ 13 (.load true 3 Z3) (some (12,false)) [3],gQ 14 (.mv Z1) (some (12,false)) [3],gQ 15 (.call 96 [Z13,Z14]) (some (12,false)) [4,5,3,3],gQ 16 (.un .not Z15) (some (12,false)) [6,3],oQ 17 (.pick Z12 (.const (.bool true)) Z16) [3,7],oQ 18 (.mv Z17) [8,6],gQ 19 (.mv Z2) (some (18,false)) [9],gQ 20 (.fld 1 Z3) (some (18,false)) [9],gQ 21 (.load false 1 Z20) (some (18,false)) [11,9],gQ 22 (.mv Z1) (some (18,false)) [9],gQ 23 (.idxA 1 Z21 Z22) (some (18,false)) [12,13,9],gQ 24 (.load false 1 Z23) (some (18,false)) [14,9],gQ 25 (.call 66 [Z19,.const (.int .i64 1),Z24]) (some (18,false)) [10,15,9,9],gQ 26 (.un .not Z25) (some (18,false)) [16,9],oQ 27 (.pick Z18 (.const (.bool true)) Z26) [9,17]]
def l88r2:List AOper :=
 [oQ 28 (.build [.int .i64 0,.slice none 0 0,.slice none 0 0] []) [],nQ (.store 3 Z6 Z28) [0,0],oQ 7 (.mv (.const (.bool false))) [1,0,1]]
def l88r3:List AOper :=
 [oQ 29 (.load true 3 Z3) [],oQ 30 (.call 90 [Z29]) [0],oQ 8 (.alloc [.int .i64 0,.slice none 0 0,.slice none 0 0]) [],nQ (.store 3 Z8 Z30) [2,1,1,0,1,2]]
def l88r4a:List AOper :=
 [oQ 31 (.fld 1 Z8) [],oQ 32 (.load false 1 Z31) [0],oQ 33 (.mv Z1) [],oQ 34 (.fld 1 Z3) [],oQ 35 (.load false 1 Z34) [3],oQ 36 (.mv Z1) [],oQ 37 (.idxA 1 Z35 Z36) [4,5],oQ 38 (.load false 1 Z37) [6],oQ 39 (.mv Z2) [],oQ 40 (.bin .sub Z38 Z39) [7,8],oQ 41 (.bin .add Z40 (.const (.int .i64 1))) [9]]
def l88r4b:List AOper :=
 [oQ 42 (.idxA 1 Z32 Z33) (1::2::uQ 11),nQ (.store 1 Z42 Z41) (11::10::uQ 11)]
def l88r4:List AOper:=l88r4a++l88r4b
def l88r5:List AOper :=
 [oQ 43 (.fld 1 Z8) [],oQ 44 (.load false 1 Z43) [0],oQ 45 (.mv Z2) [],oQ 46 (.bslice 1 [.int .i64 0] [(0,Z45)] 1) [2],oQ 47 (.append 1 Z44 Z46) [1,3],oQ 48 (.fld 1 Z8) (uQ 5),nQ (.store 1 Z48 Z47) (5::4::4::uQ 5)]
def l88r6a:List AOper :=
 [oQ 49 (.fld 2 Z8) [],oQ 50 (.load false 1 Z49) [0],oQ 51 (.fld 2 Z3) [],oQ 52 (.load false 1 Z51) [2],oQ 53 (.mv Z1) [],oQ 54 (.idxA 1 Z52 Z53) [3,4],oQ 55 (.load false 1 Z54) [5],oQ 56 (.bslice 1 [.int .i64 0] [(0,Z55)] 1) [6]]
def l88r6b:List AOper :=
 [oQ 57 (.append 1 Z50 Z56) [1,7],oQ 58 (.fld 2 Z8) (uQ 9),nQ (.store 1 Z58 Z57) (9::8::8::uQ 9)]
def l88r6:List AOper:=l88r6a++l88r6b
def l88r7:List AOper :=
 [oQ 59 (.load true 3 Z8) [],oQ 60 (.call 98 [Z59]) [0],oQ 61 (.extract Z60 0) [1],oQ 62 (.extract Z60 1) [1],nQ (.store 3 Z6 Z61) [2,1,0,1,2,3],oQ 7 (.mv Z62) (3::4::uQ 5)]
def l88:AFn :=
 (AFn.mk 63 3 (.seq (.reg l88r0) (.seq (.seq (.reg l88r1) (.cond (.tmp 27) (.seq (.reg l88r2) .ret) .skip)) (.seq (.reg l88r3) (.seq (.draw l88r4) (.seq (.reg l88r5) (.seq (.draw l88r6) (.seq (.reg l88r7) .ret))))))) [.cell 6 true 3,.tmp 7])
theorem l88_eq:lowFn Tryz.prog 88=some l88:=by kernel_rfl
def l89r0:List AOper :=
 [oQ 2 (.box Z0) [],oQ 4 (.alloc [.int .i64 0,.slice none 0 0,.slice none 0 0]) [],oQ 5 (.mv (.const (.bool false))) []]
def l89r1:List AOper :=
 [oQ 6 (.load true 3 Z2) [],oQ 7 (.call 39 [Z6]) [0],oQ 8 (.un .not Z7) [1],oQ 9 (.mv Z8) [2,1],gQ 10 (.mv Z1) (some (9,false)) [3],gQ 11 (.fld 1 Z2) (some (9,false)) [3],gQ 12 (.load false 1 Z11) (some (9,false)) [5,3],gQ 13 (.len Z12) (some (9,false)) [6,3],gQ 14 (.call 66 [Z10,.const (.int .i64 0),Z13]) (some (9,false)) [4,7,3,3],gQ 15 (.un .not Z14) (some (9,false)) [8,3],oQ 16 (.pick Z9 (.const (.bool true)) Z15) [3,9],oQ 17 (.mv Z16) [10,8],gQ 18 (.fld 1 Z2) (some (17,false)) [11],gQ 19 (.load false 1 Z18) (some (17,false)) [12,11],gQ 20 (.len Z19) (some (17,false)) [13,11],gQ 21 (.bin .eql Z20 (.const (.int .i64 4))) (some (17,false)) [14,11],oQ 22 (.pick Z17 (.const (.bool true)) Z21) [11,15]]
def l89r2:List AOper :=
 [oQ 23 (.build [.int .i64 0,.slice none 0 0,.slice none 0 0] []) [],nQ (.store 3 Z4 Z23) [0,0],oQ 5 (.mv (.const (.bool false))) [1,0,1]]
def l89r3a:List AOper :=
 [oQ 24 (.fld 0 Z2) [],oQ 25 (.load false 1 Z24) [0],oQ 26 (.fld 1 Z2) [],oQ 27 (.load false 1 Z26) [2],oQ 28 (.mv Z1) [],oQ 29 (.call 102 [Z27,Z28,.const (.int .i64 1)]) [3,4],oQ 30 (.fld 2 Z2) [],oQ 31 (.load false 1 Z30) [6],oQ 32 (.mv Z1) [],oQ 33 (.call 102 [Z31,Z32,.const (.int .i64 0)]) [7,8,5],oQ 34 (.build [.int .i64 0,.slice none 0 0,.slice none 0 0] [(0,1,Z25),(1,1,Z29),(2,1,Z33)]) [1,5,9],oQ 35 (.call 98 [Z34]) [10,9],oQ 36 (.extract Z35 0) [11],oQ 37 (.extract Z35 1) [11]]
def l89r3b:List AOper :=
 [nQ (.store 3 Z4 Z36) (12::11::uQ 14),oQ 5 (.mv Z37) (13::14::uQ 15)]
def l89r3:List AOper:=l89r3a++l89r3b
def l89:AFn :=
 (AFn.mk 38 2 (.seq (.reg l89r0) (.seq (.seq (.reg l89r1) (.cond (.tmp 22) (.seq (.reg l89r2) .ret) .skip)) (.seq (.draw l89r3) .ret))) [.cell 4 true 3,.tmp 5])
theorem l89_eq:lowFn Tryz.prog 89=some l89:=by kernel_rfl
def l90r0:List AOper :=
 [oQ 1 (.box Z0) [],oQ 2 (.alloc [.int .i64 0,.slice none 0 0,.slice none 0 0]) []]
def l90r1a:List AOper :=
 [oQ 3 (.fld 0 Z1) [],oQ 4 (.load false 1 Z3) [0],oQ 5 (.fld 1 Z1) [],oQ 6 (.load false 1 Z5) [2],oQ 7 (.call 20 [Z6]) [3],oQ 8 (.fld 2 Z1) [],oQ 9 (.load false 1 Z8) [5],oQ 10 (.call 20 [Z9]) [6,4]]
def l90r1b:List AOper :=
 [oQ 11 (.build [.int .i64 0,.slice none 0 0,.slice none 0 0] [(0,1,Z4),(1,1,Z7),(2,1,Z10)]) [1,4,7],nQ (.store 3 Z2 Z11) (8::7::uQ 9)]
def l90r1:List AOper:=l90r1a++l90r1b
def l90:AFn :=
 (AFn.mk 12 1 (.seq (.reg l90r0) (.seq (.draw l90r1) .ret)) [.cell 2 true 3])
theorem l90_eq:lowFn Tryz.prog 90=some l90:=by kernel_rfl
def l91r0:List AOper :=
 [oQ 2 (.mv (.const (.slice none 0 0))) []]
def l91r1:List AOper :=
 [oQ 5 (.mv Z0) [],oQ 6 (.call 42 [Z5]) [0],oQ 7 (.un .not Z6) [1]]
def l91r2:List AOper :=
 [oQ 2 (.mv (.const (.slice none 0 0))) []]
def l91r3:List AOper :=
 [oQ 8 (.mv Z0) [],oQ 9 (.len Z8) [0],oQ 10 (.mkslice 1 [.int .i64 0] Z9 Z9) [1,1],oQ 3 (.mv Z10) [2,0,1,2]]
def l91r4:List AOper :=
 [oQ 11 (.mv Z3) [],oQ 12 (.len Z11) [0],oQ 13 (.mv (.const (.int .i64 0))) []]
def l91r5:List AOper :=
 [oQ 14 (.bin .lss Z13 Z12) []]
def l91r6:List AOper :=
 [oQ 15 (.mv Z13) [],oQ 4 (.mv Z15) [0,0]]
def l91r7:List AOper :=
 [oQ 16 (.mv Z3) [],oQ 17 (.mv Z4) [],oQ 18 (.mv Z0) [],oQ 19 (.mv Z4) [],oQ 20 (.bin .add Z19 (.const (.int .i64 1))) [3],oQ 21 (.slice 1 Z18 (some Z20) none) [2,4],oQ 22 (.call 49 [Z21]) [5],oQ 23 (.idxA 1 Z16 Z17) (0::1::uQ 7),nQ (.store 1 Z23 Z22) (7::6::6::uQ 7)]
def l91r8:List AOper :=
 [oQ 24 (.bin .add Z13 (.const (.int .i64 1))) [],oQ 13 (.mv Z24) [0]]
def l91r9:List AOper :=
 [oQ 25 (.mv Z3) [],oQ 2 (.mv Z25) [0,0]]
def l91:AFn :=
 (AFn.mk 26 1 (.seq (.reg l91r0) (.seq (.seq (.reg l91r1) (.cond (.tmp 7) (.seq (.reg l91r2) .ret) .skip)) (.seq (.reg l91r3) (.seq (.seq (.reg l91r4) (.block 0 (.loop (.seq (.reg l91r5) (.seq (.cond (.tmp 14) .skip (.exit 0)) (.seq (.block 1 (.seq (.reg l91r6) (.reg l91r7))) (.reg l91r8))))))) (.seq (.reg l91r9) .ret))))) [.tmp 2])
theorem l91_eq:lowFn Tryz.prog 91=some l91:=by kernel_rfl
def l92r0:List AOper :=
 [oQ 4 (.mv (.const (.int .i64 0))) []]
def l92r1:List AOper :=
 [oQ 5 (.mv (.const (.int .i64 0))) []]
def l92r2:List AOper :=
 [oQ 11 (.mv Z0) [],oQ 12 (.len Z11) [0],oQ 13 (.mv (.const (.int .i64 0))) []]
def l92r3:List AOper :=
 [oQ 14 (.bin .lss Z13 Z12) []]
def l92r4:List AOper :=
 [oQ 15 (.idxA 1 Z11 Z13) [],oQ 16 (.load false 1 Z15) [0],oQ 7 (.mv Z16) [1,0,1]]
def l92r5:List AOper :=
 [oQ 8 (.mv (.const (.int .i64 1))) []]
def l92r6:List AOper :=
 [oQ 17 (.mv Z1) [],oQ 18 (.len Z17) [0],oQ 19 (.mv (.const (.int .i64 0))) []]
def l92r7:List AOper :=
 [oQ 20 (.bin .lss Z19 Z18) []]
def l92r8:List AOper :=
 [oQ 21 (.idxA 1 Z17 Z19) [],oQ 22 (.load false 1 Z21) [0],oQ 10 (.mv Z22) [1,0,1]]
def l92r9:List AOper :=
 [oQ 23 (.mv Z8) [],oQ 24 (.mv Z10) [],oQ 25 (.mv Z7) [],oQ 26 (.raw (Op.call (Call.mk (Callee.value Z24) (Array.mk [Z25]) (Array.mk [3])))) [1,2],oQ 27 (.bin .mul Z23 Z26) [0,3],oQ 8 (.mv Z27) (4::3::uQ 5)]
def l92r10:List AOper :=
 [oQ 28 (.bin .add Z19 (.const (.int .i64 1))) [],oQ 19 (.mv Z28) [0]]
def l92r11:List AOper :=
 [oQ 29 (.mv Z5) [],oQ 30 (.mv Z8) [],oQ 31 (.bin .add Z29 Z30) [0,1],oQ 5 (.mv Z31) [2,0,1,2]]
def l92r12:List AOper :=
 [oQ 32 (.bin .add Z13 (.const (.int .i64 1))) [],oQ 13 (.mv Z32) [0]]
def l92r13:List AOper :=
 [oQ 33 (.mv Z5) [],oQ 4 (.mv Z33) [0,0]]
def l92:AFn :=
 (AFn.mk 34 2 (.seq (.reg l92r0) (.seq (.reg l92r1) (.seq (.seq (.reg l92r2) (.block 0 (.loop (.seq (.reg l92r3) (.seq (.cond (.tmp 14) .skip (.exit 0)) (.seq (.block 1 (.seq (.reg l92r4) (.seq (.reg l92r5) (.seq (.seq (.reg l92r6) (.block 2 (.loop (.seq (.reg l92r7) (.seq (.cond (.tmp 20) .skip (.exit 2)) (.seq (.block 3 (.seq (.reg l92r8) (.reg l92r9))) (.reg l92r10))))))) (.reg l92r11))))) (.reg l92r12))))))) (.seq (.reg l92r13) .ret)))) [.tmp 4])
theorem l92_eq:lowFn Tryz.prog 92=some l92:=by kernel_rfl
def l93r0:List AOper :=
 [oQ 2 (.box Z0) [],oQ 4 (.mv (.const (.int .i64 0))) []]
def l93r1:List AOper :=
 [oQ 5 (.mv Z1) [],oQ 6 (.idxP 1 5 Z2 Z5) [0],oQ 7 (.load false 1 Z6) [1],oQ 4 (.mv Z7) [2,0,1,2]]
def l93:AFn :=
 (AFn.mk 8 2 (.seq (.reg l93r0) (.seq (.reg l93r1) .ret)) [.tmp 4])
theorem l93_eq:lowFn Tryz.prog 93=some l93:=by kernel_rfl
def l94r0:List AOper :=
 [oQ 1 (.box Z0) [],oQ 2 (.mv (.const .nilFunc)) []]
def l94r1:List AOper :=
 [oQ 3 (.mkfn (Fn.func 103) [] [Z1]) [],oQ 2 (.mv Z3) [0,0]]
def l94:AFn :=
 (AFn.mk 4 1 (.seq (.reg l94r0) (.seq (.reg l94r1) .ret)) [.tmp 2])
theorem l94_eq:lowFn Tryz.prog 94=some l94:=by kernel_rfl
def l95r0:List AOper :=
 [oQ 2 (.mv (.const (.slice none 0 0))) []]
def l95r1:List AOper :=
 [oQ 6 (.mv Z0) [],oQ 7 (.len Z6) [0],oQ 8 (.mkslice 1 [.int .i64 0] Z7 Z7) [1,1],oQ 3 (.mv Z8) [2,0,1,2]]
def l95r2:List AOper :=
 [oQ 4 (.mv (.const (.int .i64 1))) []]
def l95r3:List AOper :=
 [oQ 9 (.mv Z0) [],oQ 10 (.len Z9) [0],oQ 11 (.bin .sub Z10 (.const (.int .i64 1))) [1],oQ 5 (.mv Z11) [2,0,1,2]]
def l95r4:List AOper :=
 [oQ 12 (.mv Z5) [],oQ 13 (.bin .geq Z12 (.const (.int .i64 0))) [0]]
def l95r5:List AOper :=
 [oQ 16 (.mv Z3) [],oQ 17 (.mv Z5) [],oQ 18 (.mv Z4) [],oQ 19 (.idxA 1 Z16 Z17) [0,1,0,1,2],nQ (.store 1 Z19 Z18) [3,2,0,1,2]]
def l95r6:List AOper :=
 [oQ 20 (.mv Z4) [],oQ 21 (.mv Z0) [],oQ 22 (.mv Z5) [],oQ 23 (.idxA 1 Z21 Z22) [1,2],oQ 24 (.load false 1 Z23) [3],oQ 25 (.bin .mul Z20 Z24) [0,4],oQ 4 (.mv Z25) (5::uQ 6)]
def l95r7:List AOper :=
 [oQ 14 (.mv Z5) [],oQ 15 (.bin .sub Z14 (.const (.int .i64 1))) [0],oQ 5 (.mv Z15) [1,0,1]]
def l95r8:List AOper :=
 [oQ 26 (.mv Z3) [],oQ 2 (.mv Z26) [0,0]]
def l95:AFn :=
 (AFn.mk 27 1 (.seq (.reg l95r0) (.seq (.reg l95r1) (.seq (.reg l95r2) (.seq (.seq (.reg l95r3) (.block 0 (.loop (.seq (.seq (.reg l95r4) (.cond (.tmp 13) .skip (.exit 0))) (.seq (.block 1 (.seq (.reg l95r5) (.reg l95r6))) (.reg l95r7)))))) (.seq (.reg l95r8) .ret))))) [.tmp 2])
theorem l95_eq:lowFn Tryz.prog 95=some l95:=by kernel_rfl
def l96r0:List AOper :=
 [oQ 2 (.box Z0) [],oQ 4 (.mv (.const (.bool false))) []]
def l96r1:List AOper :=
 [oQ 5 (.mv Z1) [],oQ 6 (.fld 1 Z2) [],oQ 7 (.load false 1 Z6) [1],oQ 8 (.len Z7) [2],oQ 9 (.bin .sub Z8 (.const (.int .i64 1))) [3],oQ 10 (.call 66 [Z5,.const (.int .i64 0),Z9]) [0,4],oQ 4 (.mv Z10) (5::5::uQ 6)]
def l96:AFn :=
 (AFn.mk 11 2 (.seq (.reg l96r0) (.seq (.reg l96r1) .ret)) [.tmp 4])
theorem l96_eq:lowFn Tryz.prog 96=some l96:=by kernel_rfl
def l97r0:List AOper :=
 [oQ 1 (.box Z0) [],oQ 2 (.mv (.const (.bool false))) []]
def l97r1:List AOper :=
 [oQ 3 (.fld 0 Z1) [],oQ 4 (.load false 1 Z3) [0],oQ 5 (.call 66 [Z4,.const (.int .i64 (-100)),.const (.int .i64 100)]) [1],oQ 6 (.mv Z5) [2,2],gQ 7 (.fld 1 Z1) (some (6,true)) [3],gQ 8 (.load false 1 Z7) (some (6,true)) [4,3],gQ 9 (.call 66 [Z8,.const (.int .i64 (-100)),.const (.int .i64 100)]) (some (6,true)) [5,3,3],oQ 10 (.pick Z6 Z9 (.const (.bool false))) [3,6],oQ 11 (.mv Z10) [7,6],gQ 12 (.fld 2 Z1) (some (11,true)) [8],gQ 13 (.load false 1 Z12) (some (11,true)) [9,8],gQ 14 (.call 66 [Z13,.const (.int .i64 (-200)),.const (.int .i64 200)]) (some (11,true)) [10,8,8],oQ 15 (.pick Z11 Z14 (.const (.bool false))) [8,11],oQ 16 (.mv Z15) [12,11],gQ 17 (.fld 2 Z1) (some (16,true)) [13],gQ 18 (.load false 1 Z17) (some (16,true)) [14,13],gQ 19 (.bin .neq Z18 (.const (.int .i64 0))) (some (16,true)) [15,13],oQ 20 (.pick Z16 Z19 (.const (.bool false))) [13,16],oQ 21 (.mv Z20) [17,13],gQ 22 (.fld 3 Z1) (some (21,true)) [18],gQ 23 (.load false 1 Z22) (some (21,true)) [19,18],gQ 24 (.mv Z23) (some (21,true)) [20,18,18],gQ 25 (.fld 0 Z1) (some (24,false)) [21],gQ 26 (.load false 1 Z25) (some (24,false)) [22,21],gQ 27 (.bin .eql Z26 (.const (.int .i64 0))) (some (24,false)) [23,21],gQ 28 (.pick Z24 (.const (.bool true)) Z27) (some (21,true)) [21,24,18],oQ 29 (.pick Z21 Z28 (.const (.bool false))) [18,25],oQ 30 (.mv Z29) [26,21],gQ 31 (.fld 4 Z1) (some (30,true)) [27],gQ 32 (.load false 1 Z31) (some (30,true)) [28,27],gQ 33 (.mv Z32) (some (30,true)) [29,27,27],gQ 34 (.fld 1 Z1) (some (33,false)) [30],gQ 35 (.load false 1 Z34) (some (33,false)) [31,30],gQ 36 (.bin .eql Z35 (.const (.int .i64 0))) (some (33,false)) [32,30],gQ 37 (.pick Z33 (.const (.bool true)) Z36) (some (30,true)) [30,33,27],oQ 38 (.pick Z30 Z37 (.const (.bool false))) [27,34],oQ 2 (.mv Z38) (35::30::uQ 36)]
def l97:AFn :=
 (AFn.mk 39 1 (.seq (.reg l97r0) (.seq (.reg l97r1) .ret)) [.tmp 2])
theorem l97_eq:lowFn Tryz.prog 97=some l97:=by kernel_rfl
def l98r0:List AOper :=
 [oQ 1 (.box Z0) [],oQ 2 (.alloc [.int .i64 0,.slice none 0 0,.slice none 0 0]) [],oQ 3 (.mv (.const (.bool false))) []]
def l98r1:List AOper :=
 [oQ 4 (.load true 3 Z1) [],oQ 5 (.call 39 [Z4]) [0],oQ 6 (.un .not Z5) [1]]
def l98r2:List AOper :=
 [oQ 7 (.build [.int .i64 0,.slice none 0 0,.slice none 0 0] []) [],nQ (.store 3 Z2 Z7) [0,0],oQ 3 (.mv (.const (.bool false))) [1,0,1]]
def l98r3:List AOper :=
 [oQ 8 (.load true 3 Z1) [],oQ 9 (.call 90 [Z8]) [0],nQ (.store 3 Z2 Z9) [1,1,0,1],oQ 3 (.mv (.const (.bool true))) [2,0,1,2]]
def l98:AFn :=
 (AFn.mk 10 1 (.seq (.reg l98r0) (.seq (.seq (.reg l98r1) (.cond (.tmp 6) (.seq (.reg l98r2) .ret) .skip)) (.seq (.reg l98r3) .ret))) [.cell 2 true 3,.tmp 3])
theorem l98_eq:lowFn Tryz.prog 98=some l98:=by kernel_rfl
def l99r0:List AOper :=
 [oQ 3 (.box Z0) [],oQ 5 (.box Z2) [],oQ 6 (.alloc [.int .i64 0,.slice none 0 0,.slice none 0 0]) []]
def l99r1:List AOper :=
 [oQ 10 (.load true 3 Z3) [],oQ 11 (.call 90 [Z10]) [0],oQ 7 (.alloc [.int .i64 0,.slice none 0 0,.slice none 0 0]) [],nQ (.store 3 Z7 Z11) [2,1,1,0,1,2]]
def l99r2a:List AOper :=
 [oQ 12 (.fld 1 Z3) [],oQ 13 (.load false 1 Z12) [0],oQ 14 (.mv Z1) [],oQ 15 (.idxA 1 Z13 Z14) [1,2],oQ 16 (.load false 1 Z15) [3],oQ 17 (.load true 5 Z5) [],oQ 18 (.call 105 [Z16,Z17]) [4,5],oQ 19 (.call 104 [Z18]) [6,6],oQ 8 (.alloc [.int .i64 0,.int .i64 0,.int .i64 0]) []]
def l99r2b:List AOper :=
 [nQ (.store 3 Z8 Z19) (8::7::7::uQ 9)]
def l99r2:List AOper:=l99r2a++l99r2b
def l99r3:List AOper :=
 [oQ 20 (.load true 3 Z8) [],oQ 21 (.call 106 [Z20]) [0],oQ 9 (.mv Z21) [1,1,0,1]]
def l99r4:List AOper :=
 [oQ 22 (.fld 1 Z7) [],oQ 23 (.load false 1 Z22) [0],oQ 24 (.mv Z1) [],oQ 25 (.mv Z9) [],oQ 26 (.len Z25) [3],oQ 27 (.idxA 1 Z23 Z24) (1::2::uQ 5),nQ (.store 1 Z27 Z26) (5::4::uQ 5)]
def l99r5a:List AOper :=
 [oQ 28 (.fld 0 Z3) [],oQ 29 (.load false 1 Z28) [0],oQ 30 (.fld 0 Z8) [],oQ 31 (.load false 1 Z30) [2],oQ 32 (.fld 2 Z3) [],oQ 33 (.load false 1 Z32) [4],oQ 34 (.mv Z1) [],oQ 35 (.idxA 1 Z33 Z34) [5,6],oQ 36 (.load false 1 Z35) [7],oQ 37 (.bin .mul Z31 Z36) [3,8]]
def l99r5b:List AOper :=
 [oQ 38 (.bin .add Z29 Z37) [1,9],oQ 39 (.fld 0 Z7) (uQ 11),nQ (.store 1 Z39 Z38) (11::10::uQ 11)]
def l99r5:List AOper:=l99r5a++l99r5b
def l99r6a:List AOper :=
 [oQ 40 (.fld 2 Z7) [],oQ 41 (.load false 1 Z40) [0],oQ 42 (.mv Z1) [],oQ 43 (.fld 2 Z8) [],oQ 44 (.load false 1 Z43) [3],oQ 45 (.fld 2 Z3) [],oQ 46 (.load false 1 Z45) [5],oQ 47 (.mv Z1) [],oQ 48 (.idxA 1 Z46 Z47) [6,7],oQ 49 (.load false 1 Z48) [8],oQ 50 (.bin .mul Z44 Z49) [4,9]]
def l99r6b:List AOper :=
 [oQ 51 (.idxA 1 Z41 Z42) (1::2::uQ 11),nQ (.store 1 Z51 Z50) (11::10::uQ 11)]
def l99r6:List AOper:=l99r6a++l99r6b
def l99r7:List AOper :=
 [oQ 52 (.mv Z9) [],oQ 53 (.len Z52) [0],oQ 54 (.bin .leq Z53 (.const (.int .i64 1))) [1]]
def l99r8:List AOper :=
 [oQ 55 (.fld 2 Z7) [],oQ 56 (.load false 1 Z55) [0],oQ 57 (.mv Z1) [],oQ 58 (.idxA 1 Z56 Z57) [1,2,0,1,2],nQ (.store 1 Z58 (.const (.int .i64 0))) [3,0,1,2]]
def l99r9:List AOper :=
 [oQ 59 (.load true 3 Z7) [],oQ 60 (.call 107 [Z59]) [0],nQ (.store 3 Z6 Z60) [1,1,0,1]]
def l99:AFn :=
 (AFn.mk 61 3 (.seq (.reg l99r0) (.seq (.reg l99r1) (.seq (.draw l99r2) (.seq (.reg l99r3) (.seq (.reg l99r4) (.seq (.draw l99r5) (.seq (.draw l99r6) (.seq (.seq (.reg l99r7) (.cond (.tmp 54) (.reg l99r8) .skip)) (.seq (.reg l99r9) .ret))))))))) [.cell 6 true 3])
theorem l99_eq:lowFn Tryz.prog 99=some l99:=by kernel_rfl
def l100r0:List AOper :=
 [oQ 4 (.mv (.const (.bool false))) []]
def l100r1:List AOper :=
 [oQ 5 (.mv Z0) [],oQ 6 (.len Z5) [0],oQ 7 (.mv Z1) [],oQ 8 (.bin .eql Z6 Z7) [1,2],oQ 9 (.mv Z8) [3],gQ 10 (.mv Z0) (some (9,true)) [4],gQ 11 (.mv Z1) (some (9,true)) [4],gQ 12 (.bin .sub Z11 (.const (.int .i64 1))) (some (9,true)) [6,4],gQ 13 (.call 64 [Z10,.const (.int .i64 0),Z12]) (some (9,true)) [5,7,4,4],oQ 14 (.pick Z9 Z13 (.const (.bool false))) [4,8],oQ 15 (.mv Z14) [9,8],gQ 16 (.mv Z0) (some (15,true)) [10],gQ 17 (.call 108 [Z16]) (some (15,true)) [11,10,10],oQ 18 (.pick Z15 Z17 (.const (.bool false))) [10,12],oQ 4 (.mv Z18) (13::12::uQ 14)]
def l100:AFn :=
 (AFn.mk 19 2 (.seq (.reg l100r0) (.seq (.reg l100r1) .ret)) [.tmp 4])
theorem l100_eq:lowFn Tryz.prog 100=some l100:=by kernel_rfl
def l101r0:List AOper :=
 [oQ 2 (.box Z0) [],oQ 4 (.alloc [.int .i64 0,.slice none 0 0,.slice none 0 0]) []]
def l101r1:List AOper :=
 [oQ 7 (.fld 0 Z2) [],oQ 8 (.load false 1 Z7) [0],oQ 9 (.build [.int .i64 0,.slice none 0 0,.slice none 0 0] [(0,1,Z8)]) [1],oQ 5 (.alloc [.int .i64 0,.slice none 0 0,.slice none 0 0]) [],nQ (.store 3 Z5 Z9) [3,2,0,1,2,3]]
def l101r2:List AOper :=
 [oQ 6 (.mv (.const (.int .i64 0))) []]
def l101r3:List AOper :=
 [oQ 10 (.mv Z6) [],oQ 11 (.mv Z1) [],oQ 12 (.len Z11) [1],oQ 13 (.bin .lss Z10 Z12) [0,2]]
def l101r4a:List AOper :=
 [oQ 16 (.fld 1 Z5) [],oQ 17 (.load false 1 Z16) [0],oQ 18 (.fld 1 Z2) [],oQ 19 (.load false 1 Z18) [2],oQ 20 (.mv Z1) [],oQ 21 (.mv Z6) [],oQ 22 (.idxA 1 Z20 Z21) [4,5],oQ 23 (.load false 1 Z22) [6],oQ 24 (.idxA 1 Z19 Z23) [3,7],oQ 25 (.load false 1 Z24) [8],oQ 26 (.bslice 1 [.int .i64 0] [(0,Z25)] 1) [9]]
def l101r4b:List AOper :=
 [oQ 27 (.append 1 Z17 Z26) [1,10],oQ 28 (.fld 1 Z5) (uQ 12),nQ (.store 1 Z28 Z27) (12::11::11::uQ 12)]
def l101r4:List AOper:=l101r4a++l101r4b
def l101r5a:List AOper :=
 [oQ 29 (.fld 2 Z5) [],oQ 30 (.load false 1 Z29) [0],oQ 31 (.fld 2 Z2) [],oQ 32 (.load false 1 Z31) [2],oQ 33 (.mv Z1) [],oQ 34 (.mv Z6) [],oQ 35 (.idxA 1 Z33 Z34) [4,5],oQ 36 (.load false 1 Z35) [6],oQ 37 (.idxA 1 Z32 Z36) [3,7],oQ 38 (.load false 1 Z37) [8],oQ 39 (.bslice 1 [.int .i64 0] [(0,Z38)] 1) [9]]
def l101r5b:List AOper :=
 [oQ 40 (.append 1 Z30 Z39) [1,10],oQ 41 (.fld 2 Z5) (uQ 12),nQ (.store 1 Z41 Z40) (12::11::11::uQ 12)]
def l101r5:List AOper:=l101r5a++l101r5b
def l101r6:List AOper :=
 [oQ 14 (.mv Z6) [],oQ 15 (.bin .add Z14 (.const (.int .i64 1))) [0],oQ 6 (.mv Z15) [1,0,1]]
def l101r7:List AOper :=
 [oQ 42 (.load true 3 Z5) [],nQ (.store 3 Z4 Z42) [0,0]]
def l101:AFn :=
 (AFn.mk 43 2 (.seq (.reg l101r0) (.seq (.reg l101r1) (.seq (.seq (.reg l101r2) (.block 0 (.loop (.seq (.seq (.reg l101r3) (.cond (.tmp 13) .skip (.exit 0))) (.seq (.block 1 (.seq (.draw l101r4) (.draw l101r5))) (.reg l101r6)))))) (.seq (.reg l101r7) .ret)))) [.cell 4 true 3])
theorem l101_eq:lowFn Tryz.prog 101=some l101:=by kernel_rfl
def l102r0:List AOper :=
 [oQ 6 (.mv (.const (.slice none 0 0))) []]
def l102r1a:List AOper :=
 [oQ 7 (.bslice 1 [.int .i64 0] [] 0) [],oQ 8 (.mv Z0) [],oQ 9 (.mv Z1) [],oQ 10 (.slice 1 Z8 none (some Z9)) [1,2],oQ 11 (.append 1 Z7 Z10) [0,3],oQ 12 (.mv Z2) [],oQ 13 (.bslice 1 [.int .i64 0] [(0,Z12)] 1) [5],oQ 14 (.append 1 Z11 Z13) [4,6,4],oQ 15 (.mv Z0) [],oQ 16 (.mv Z1) [],oQ 17 (.slice 1 Z15 (some Z16) none) [8,9]]
def l102r1b:List AOper :=
 [oQ 18 (.append 1 Z14 Z17) [7,10,7],oQ 6 (.mv Z18) (11::11::uQ 12)]
def l102r1:List AOper:=l102r1a++l102r1b
def l102:AFn :=
 (AFn.mk 19 3 (.seq (.reg l102r0) (.seq (.draw l102r1) .ret)) [.tmp 6])
theorem l102_eq:lowFn Tryz.prog 102=some l102:=by kernel_rfl
def l104r0:List AOper :=
 [oQ 2 (.alloc [.int .i64 0,.int .i64 0,.int .i64 0]) []]
def l104r1:List AOper :=
 [oQ 5 (.mv Z0) [],oQ 6 (.len Z5) [0]]
def l104r2:List AOper :=
 [oQ 8 (.bin .eql Z6 (.const (.int .i64 0))) [],oQ 7 (.mv Z8) [0]]
def l104r3:List AOper :=
 [oQ 9 (.build [.int .i64 0,.int .i64 0,.int .i64 0] [(0,1,.const (.int .i64 0)),(1,1,.const (.int .i64 0)),(2,1,.const (.int .i64 1))]) [],nQ (.store 3 Z2 Z9) [0,0]]
def l104r4:List AOper :=
 [oQ 11 (.bin .eql Z6 (.const (.int .i64 1))) [],oQ 10 (.mv Z11) [0]]
def l104r5a:List AOper :=
 [oQ 12 (.mv Z0) [],oQ 13 (.idxA 1 Z12 (.const (.int .i64 0))) [0],oQ 14 (.load false 1 Z13) [1],oQ 15 (.mv Z0) [],oQ 16 (.idxA 1 Z15 (.const (.int .i64 0))) [3],oQ 17 (.load false 1 Z16) [4],oQ 18 (.bin .add Z17 (.const (.int .i64 1))) [5]]
def l104r5b:List AOper :=
 [oQ 19 (.build [.int .i64 0,.int .i64 0,.int .i64 0] [(0,1,Z14),(1,1,Z18),(2,1,.const (.int .i64 1))]) [2,6],nQ (.store 3 Z2 Z19) (7::uQ 8)]
def l104r5:List AOper:=l104r5a++l104r5b
def l104r6a:List AOper :=
 [oQ 20 (.mv Z0) [],oQ 21 (.idxA 1 Z20 (.const (.int .i64 1))) [0],oQ 22 (.load false 1 Z21) [1],oQ 23 (.mv Z0) [],oQ 24 (.idxA 1 Z23 (.const (.int .i64 0))) [3],oQ 25 (.load false 1 Z24) [4]]
def l104r6b:List AOper :=
 [oQ 26 (.bin .sub Z22 Z25) [2,5],oQ 3 (.mv Z26) (6::uQ 7)]
def l104r6:List AOper:=l104r6a++l104r6b
def l104r7:List AOper :=
 [oQ 27 (.mv Z0) [],oQ 28 (.mv Z0) [],oQ 29 (.len Z28) [1],oQ 30 (.bin .sub Z29 (.const (.int .i64 1))) [2],oQ 31 (.idxA 1 Z27 Z30) [0,3],oQ 32 (.load false 1 Z31) [4],oQ 33 (.bin .add Z32 (.const (.int .i64 1))) [5],oQ 4 (.mv Z33) (6::uQ 7)]
def l104r8:List AOper :=
 [oQ 34 (.mv Z3) [],oQ 35 (.bin .lss Z34 (.const (.int .i64 0))) [0]]
def l104r9:List AOper :=
 [oQ 36 (.mv Z0) [],oQ 37 (.mv Z0) [],oQ 38 (.len Z37) [1],oQ 39 (.bin .sub Z38 (.const (.int .i64 1))) [2],oQ 40 (.idxA 1 Z36 Z39) [0,3],oQ 41 (.load false 1 Z40) [4],oQ 42 (.bin .sub Z41 (.const (.int .i64 1))) [5],oQ 4 (.mv Z42) (6::uQ 7)]
def l104r10:List AOper :=
 [oQ 43 (.mv Z0) [],oQ 44 (.idxA 1 Z43 (.const (.int .i64 0))) [0],oQ 45 (.load false 1 Z44) [1],oQ 46 (.mv Z4) [],oQ 47 (.mv Z3) [],oQ 48 (.build [.int .i64 0,.int .i64 0,.int .i64 0] [(0,1,Z45),(1,1,Z46),(2,1,Z47)]) [2,3,4],nQ (.store 3 Z2 Z48) (5::uQ 6)]
def l104:AFn :=
 (AFn.mk 49 1 (.seq (.reg l104r0) (.seq (.seq (.reg l104r1) (.block 0 (.seq (.reg l104r2) (.cond (.tmp 7) (.seq (.reg l104r3) .ret) (.seq (.reg l104r4) (.cond (.tmp 10) (.seq (.draw l104r5) .ret) .skip)))))) (.seq (.draw l104r6) (.seq (.reg l104r7) (.seq (.seq (.reg l104r8) (.cond (.tmp 35) (.reg l104r9) .skip)) (.seq (.reg l104r10) .ret)))))) [.cell 2 true 3])
theorem l104_eq:lowFn Tryz.prog 104=some l104:=by kernel_rfl
def l105r0:List AOper :=
 [oQ 3 (.box Z1) [],oQ 4 (.mv (.const (.slice none 0 0))) []]
def l105r1:List AOper :=
 [oQ 5 (.mv (.const (.int .i64 0))) []]
def l105r2:List AOper :=
 [oQ 7 (.mv Z0) [],oQ 6 (.mv Z7) [0,0]]
def l105r3:List AOper :=
 [oQ 8 (.fld 2 Z3) [],oQ 9 (.load false 1 Z8) [0],oQ 10 (.bin .lss Z9 (.const (.int .i64 0))) [1]]
def l105r4:List AOper :=
 [oQ 11 (.mv Z0) [],oQ 12 (.bin .sub Z11 (.const (.int .i64 1))) [0],oQ 5 (.mv Z12) [1,0,1]]
def l105r5:List AOper :=
 [oQ 6 (.mv (.const (.int .i64 (-1)))) []]
def l105r6:List AOper :=
 [oQ 13 (.fld 3 Z3) [],oQ 14 (.load false 1 Z13) [0]]
def l105r7:List AOper :=
 [oQ 15 (.mv Z0) [],oQ 16 (.fld 0 Z3) [],oQ 17 (.load false 1 Z16) [1],oQ 18 (.fld 2 Z3) [],oQ 19 (.load false 1 Z18) [3],oQ 20 (.call 109 [Z15,Z17,Z19]) [0,2,4],oQ 5 (.mv Z20) (5::5::uQ 6)]
def l105r8:List AOper :=
 [oQ 21 (.fld 4 Z3) [],oQ 22 (.load false 1 Z21) [0]]
def l105r9:List AOper :=
 [oQ 23 (.mv Z0) [],oQ 24 (.fld 1 Z3) [],oQ 25 (.load false 1 Z24) [1],oQ 26 (.fld 2 Z3) [],oQ 27 (.load false 1 Z26) [3],oQ 28 (.call 109 [Z23,Z25,Z27]) [0,2,4],oQ 6 (.mv Z28) (5::5::uQ 6)]
def l105r10:List AOper :=
 [oQ 29 (.mv Z5) [],oQ 30 (.mv Z6) [],oQ 31 (.fld 2 Z3) [],oQ 32 (.load false 1 Z31) [2],oQ 33 (.build [.int .i64 0,.int .i64 0,.int .i64 0] [(0,1,Z29),(1,1,Z30),(2,1,Z32)]) [0,1,3],oQ 34 (.call 106 [Z33]) [4],oQ 4 (.mv Z34) (5::5::uQ 6)]
def l105:AFn :=
 (AFn.mk 35 2 (.seq (.reg l105r0) (.seq (.reg l105r1) (.seq (.reg l105r2) (.seq (.seq (.reg l105r3) (.cond (.tmp 10) (.seq (.reg l105r4) (.reg l105r5)) .skip)) (.seq (.seq (.reg l105r6) (.cond (.tmp 14) (.reg l105r7) .skip)) (.seq (.seq (.reg l105r8) (.cond (.tmp 22) (.reg l105r9) .skip)) (.seq (.reg l105r10) .ret))))))) [.tmp 4])
theorem l105_eq:lowFn Tryz.prog 105=some l105:=by kernel_rfl
def l106r0:List AOper :=
 [oQ 1 (.box Z0) [],oQ 2 (.mv (.const (.slice none 0 0))) []]
def l106r1:List AOper :=
 [oQ 5 (.bslice 1 [.int .i64 0] [] 0) [],oQ 3 (.mv Z5) [0,0]]
def l106r2:List AOper :=
 [oQ 6 (.fld 0 Z1) [],oQ 7 (.load false 1 Z6) [0],oQ 4 (.mv Z7) [1,0,1]]
def l106r3:List AOper :=
 [oQ 8 (.fld 2 Z1) [],oQ 9 (.load false 1 Z8) [0],oQ 10 (.bin .gtr Z9 (.const (.int .i64 0))) [1],oQ 11 (.mv Z10) [2],gQ 12 (.mv Z4) (some (11,true)) [3],gQ 13 (.fld 1 Z1) (some (11,true)) [3],gQ 14 (.load false 1 Z13) (some (11,true)) [5,3],gQ 15 (.bin .lss Z12 Z14) (some (11,true)) [4,6,3],oQ 16 (.pick Z11 Z15 (.const (.bool false))) [3,7],oQ 17 (.mv Z16) [8,3],gQ 18 (.fld 2 Z1) (some (17,false)) [9],gQ 19 (.load false 1 Z18) (some (17,false)) [10,9],gQ 20 (.bin .lss Z19 (.const (.int .i64 0))) (some (17,false)) [11,9],gQ 21 (.mv Z20) (some (17,false)) [12,9,9],gQ 22 (.mv Z4) (some (21,true)) [13],gQ 23 (.fld 1 Z1) (some (21,true)) [13],gQ 24 (.load false 1 Z23) (some (21,true)) [15,13],gQ 25 (.bin .gtr Z22 Z24) (some (21,true)) [14,16,13],gQ 26 (.pick Z21 Z25 (.const (.bool false))) (some (17,false)) [13,17,9],oQ 27 (.pick Z17 (.const (.bool true)) Z26) [9,18]]
def l106r4:List AOper :=
 [oQ 32 (.mv Z3) [],oQ 33 (.mv Z4) [],oQ 34 (.bslice 1 [.int .i64 0] [(0,Z33)] 1) [1],oQ 35 (.append 1 Z32 Z34) [0,2],oQ 3 (.mv Z35) [3,3,0,1,2,3]]
def l106r5:List AOper :=
 [oQ 28 (.mv Z4) [],oQ 29 (.fld 2 Z1) [],oQ 30 (.load false 1 Z29) [1],oQ 31 (.bin .add Z28 Z30) [0,2],oQ 4 (.mv Z31) [3,0,1,2,3]]
def l106r6:List AOper :=
 [oQ 36 (.mv Z3) [],oQ 2 (.mv Z36) [0,0]]
def l106:AFn :=
 (AFn.mk 37 1 (.seq (.reg l106r0) (.seq (.reg l106r1) (.seq (.seq (.reg l106r2) (.block 0 (.loop (.seq (.seq (.reg l106r3) (.cond (.tmp 27) .skip (.exit 0))) (.seq (.block 1 (.reg l106r4)) (.reg l106r5)))))) (.seq (.reg l106r6) .ret)))) [.tmp 2])
theorem l106_eq:lowFn Tryz.prog 106=some l106:=by kernel_rfl
def l107r0:List AOper :=
 [oQ 1 (.box Z0) [],oQ 2 (.alloc [.int .i64 0,.slice none 0 0,.slice none 0 0]) []]
def l107r1:List AOper :=
 [oQ 3 (.fld 1 Z1) [],oQ 4 (.load false 1 Z3) [0],oQ 5 (.call 67 [Z4]) [1],oQ 6 (.bin .eql Z5 (.const (.int .i64 0))) [2]]
def l107r2a:List AOper :=
 [oQ 7 (.fld 1 Z1) [],oQ 8 (.load false 1 Z7) [0],oQ 9 (.fld 1 Z1) [],oQ 10 (.load false 1 Z9) [2],oQ 11 (.len Z10) [3],oQ 12 (.mkslice 1 [.int .i64 0] Z11 Z11) [4,4]]
def l107r2b:List AOper :=
 [oQ 13 (.build [.int .i64 0,.slice none 0 0,.slice none 0 0] [(1,1,Z8),(2,1,Z12)]) [1,5],nQ (.store 3 Z2 Z13) (6::uQ 7)]
def l107r2:List AOper:=l107r2a++l107r2b
def l107r3:List AOper :=
 [oQ 14 (.load true 3 Z1) [],nQ (.store 3 Z2 Z14) [0,0]]
def l107:AFn :=
 (AFn.mk 15 1 (.seq (.reg l107r0) (.seq (.seq (.reg l107r1) (.cond (.tmp 6) (.seq (.draw l107r2) .ret) .skip)) (.seq (.reg l107r3) .ret))) [.cell 2 true 3])
theorem l107_eq:lowFn Tryz.prog 107=some l107:=by kernel_rfl
def l108r0:List AOper :=
 [oQ 2 (.mv (.const (.bool false))) []]
def l108r1:List AOper :=
 [oQ 3 (.mv (.const (.int .i64 0))) []]
def l108r2:List AOper :=
 [oQ 4 (.mv Z3) [],oQ 5 (.mv Z0) [],oQ 6 (.len Z5) [1],oQ 7 (.bin .lss Z4 Z6) [0,2]]
def l108r3a:List AOper :=
 [oQ 10 (.mv Z0) [],oQ 11 (.mv Z3) [],oQ 12 (.slice 1 Z10 none (some Z11)) [0,1],oQ 13 (.mv Z0) [],oQ 14 (.mv Z3) [],oQ 15 (.idxA 1 Z13 Z14) [3,4],oQ 16 (.load false 1 Z15) [5]]
def l108r3b:List AOper :=
 [oQ 17 (.call 110 [Z12,Z16]) [2,6],oQ 18 (.bin .geq Z17 (.const (.int .i64 0))) [7]]
def l108r3:List AOper:=l108r3a++l108r3b
def l108r4:List AOper :=
 [oQ 2 (.mv (.const (.bool false))) []]
def l108r5:List AOper :=
 [oQ 8 (.mv Z3) [],oQ 9 (.bin .add Z8 (.const (.int .i64 1))) [0],oQ 3 (.mv Z9) [1,0,1]]
def l108r6:List AOper :=
 [oQ 2 (.mv (.const (.bool true))) []]
def l108:AFn :=
 (AFn.mk 19 1 (.seq (.reg l108r0) (.seq (.seq (.reg l108r1) (.block 0 (.loop (.seq (.seq (.reg l108r2) (.cond (.tmp 7) .skip (.exit 0))) (.seq (.block 1 (.seq (.draw l108r3) (.cond (.tmp 18) (.seq (.reg l108r4) .ret) .skip))) (.reg l108r5)))))) (.seq (.reg l108r6) .ret))) [.tmp 2])
theorem l108_eq:lowFn Tryz.prog 108=some l108:=by kernel_rfl
def l109r0:List AOper :=
 [oQ 6 (.mv (.const (.int .i64 0))) []]
def l109r1:List AOper :=
 [oQ 7 (.mv (.const (.int .i64 0))) []]
def l109r2:List AOper :=
 [oQ 9 (.mv Z0) [],oQ 8 (.mv Z9) [0,0]]
def l109r3:List AOper :=
 [oQ 10 (.mv Z2) [],oQ 11 (.bin .lss Z10 (.const (.int .i64 0))) [0]]
def l109r4:List AOper :=
 [oQ 7 (.mv (.const (.int .i64 (-1)))) []]
def l109r5:List AOper :=
 [oQ 12 (.mv Z0) [],oQ 13 (.bin .sub Z12 (.const (.int .i64 1))) [0],oQ 8 (.mv Z13) [1,0,1]]
def l109r6:List AOper :=
 [oQ 14 (.mv Z1) [],oQ 15 (.bin .lss Z14 (.const (.int .i64 0))) [0]]
def l109r7:List AOper :=
 [oQ 16 (.mv Z1) [],oQ 17 (.mv Z0) [],oQ 18 (.bin .add Z16 Z17) [0,1],oQ 1 (.mv Z18) [2,0,1,2]]
def l109r8:List AOper :=
 [oQ 19 (.mv Z8) [],oQ 20 (.mv Z7) [],oQ 21 (.mv Z1) [],oQ 22 (.minmax true Z20 Z21) [1,2],oQ 23 (.minmax false Z19 Z22) [0,3],oQ 6 (.mv Z23) (4::uQ 5)]
def l109:AFn :=
 (AFn.mk 24 3 (.seq (.reg l109r0) (.seq (.reg l109r1) (.seq (.reg l109r2) (.seq (.seq (.reg l109r3) (.cond (.tmp 11) (.seq (.reg l109r4) (.reg l109r5)) .skip)) (.seq (.seq (.reg l109r6) (.cond (.tmp 15) (.reg l109r7) .skip)) (.seq (.reg l109r8) .ret)))))) [.tmp 6])
theorem l109_eq:lowFn Tryz.prog 109=some l109:=by kernel_rfl
def l110r0:List AOper :=
 [oQ 4 (.mv (.const (.int .i64 0))) []]
def l110r1:List AOper :=
 [oQ 5 (.mv (.const (.int .i64 0))) []]
def l110r2:List AOper :=
 [oQ 6 (.mv Z5) [],oQ 7 (.mv Z0) [],oQ 8 (.len Z7) [1],oQ 9 (.bin .lss Z6 Z8) [0,2]]
def l110r3:List AOper :=
 [oQ 12 (.mv Z0) [],oQ 13 (.mv Z5) [],oQ 14 (.idxA 1 Z12 Z13) [0,1],oQ 15 (.load false 1 Z14) [2],oQ 16 (.mv Z1) [],oQ 17 (.bin .eql Z15 Z16) [3,4]]
def l110r4:List AOper :=
 [oQ 18 (.mv Z5) [],oQ 4 (.mv Z18) [0,0]]
def l110r5:List AOper :=
 [oQ 10 (.mv Z5) [],oQ 11 (.bin .add Z10 (.const (.int .i64 1))) [0],oQ 5 (.mv Z11) [1,0,1]]
def l110r6:List AOper :=
 [oQ 4 (.mv (.const (.int .i64 (-1)))) []]
def l110:AFn :=
 (AFn.mk 19 2 (.seq (.reg l110r0) (.seq (.seq (.reg l110r1) (.block 0 (.loop (.seq (.seq (.reg l110r2) (.cond (.tmp 9) .skip (.exit 0))) (.seq (.block 1 (.seq (.reg l110r3) (.cond (.tmp 17) (.seq (.reg l110r4) .ret) .skip))) (.reg l110r5)))))) (.seq (.reg l110r6) .ret))) [.tmp 4])
theorem l110_eq:lowFn Tryz.prog 110=some l110:=by kernel_rfl
attribute [push_cast] l3r0 l3r1 l3r2 l3r3 l3r4 l3r5 l3r6 l3r7 l3r8 l3r9 l3r10 l3r11a l3r11b l3r11 l4r0 l4r1 l5r0 l5r1 l5r2 l5r3a l5r3b l5r3 l6r0 l6r1 l6r2 l6r3a l6r3b l6r3 l7r0 l7r1 l8r0 l8r1 l8r2 l8r3 l8r4 l8r5 l8r6 l9r0 l9r1 l9r2 l9r3 l9r4 l9r5 l9r6 l10r0 l10r1 l10r2 l10r3 l10r4 l10r5 l10r6 l10r7a l10r7b l10r7 l10r8 l10r9 l11r0 l11r1 l11r2 l11r3 l11r4 l11r5a l11r5b l11r5 l11r6 l11r7 l11r8 l12r0 l12r1 l12r2 l12r3 l13r0 l13r1 l13r2 l13r3 l13r4 l13r5 l14r0 l14r1 l15r0 l15r1 l15r2 l15r3 l16r0 l16r1 l17r0 l17r1 l18r0 l18r1a l18r1b l18r1 l18r2 l18r3 l18r4 l18r5a l18r5b l18r5 l18r6 l18r7 l19r0 l19r1 l20r0 l20r1 l21r0 l21r1 l21r2 l21r3 l21r4 l21r5 l21r6 l21r7 l22r0 l22r1 l22r2 l22r3 l22r4 l23r0 l23r1 l23r2 l23r3 l23r4 l23r5 l23r6 l23r7 l23r8 l23r9 l24r0 l24r1 l24r2 l24r3 l24r4 l24r5a l24r5b l24r5 l24r6 l24r7 l25r0 l25r1 l25r2 l25r3 l25r4 l25r5 l25r6 l25r7 l25r8 l26r0 l26r1a l26r1b l26r1 l26r2 l26r3 l26r4 l26r5 l26r6 l26r7 l26r8 l26r9 l27r0 l27r1 l27r2 l27r3 l27r4 l27r5 l27r6 l27r7 l27r8 l28r0 l28r1 l28r2 l28r3 l28r4 l28r5 l28r6 l28r7 l29r0 l29r1 l29r2 l29r3 l29r4 l29r5 l29r6 l29r7 l29r8 l29r9 l29r10 l30r0 l30r1 l30r2 l30r3 l30r4 l30r5 l30r6 l30r7 l30r8 l31r0 l31r1 l31r2 l31r3 l31r4 l31r5 l31r6 l31r7 l31r8 l31r9a l31r9b l31r9 l31r10 l32r0 l32r1 l33r0 l33r1 l33r2 l33r3 l33r4 l34r0 l34r1 l34r2 l34r3 l35r0 l35r1 l35r2 l35r3 l35r4 l35r5a l35r5b l35r5 l35r6 l35r7 l36r0 l36r1 l36r2 l36r3 l36r4 l37r0 l37r1 l37r2 l38r0 l38r1 l39r0 l39r1 l40r0 l40r1 l41r0 l41r1 l41r2 l41r3 l41r4a l41r4b l41r4 l41r5 l41r6 l42r0 l42r1 l42r2 l42r3 l42r4 l42r5 l42r6 l42r7 l42r8 l42r9 l43r0 l43r1 l43r2 l43r3 l43r4 l43r5 l43r6 l43r7 l43r8 l43r9 l44r0 l44r1 l45r0 l45r1 l45r2 l45r3a l45r3b l45r3 l45r4 l45r5 l45r6 l45r7 l45r8 l45r9 l45r10 l45r11 l46r0 l46r1 l47r0 l47r1 l48r0 l48r1a l48r1b l48r1 l49r0 l49r1 l49r2 l49r3 l49r4 l49r5 l49r6 l49r7 l50r0 l50r1 l51r0 l51r1a l51r1b l51r1 l51r2 l51r3 l51r4 l51r5 l51r6 l52r0 l52r1 l53r0 l53r1 l53r2 l53r3 l54r0 l54r1 l54r2 l54r3 l54r4 l54r5 l54r6 l54r7 l54r8 l54r9 l54r10 l54r11 l54r12 l54r13 l54r14 l54r15 l54r16 l54r17 l54r18 l55r0 l55r1a l55r1b l55r1 l56r0 l56r1 l56r2 l56r3 l56r4 l56r5 l56r6 l56r7 l57r0 l57r1 l57r2 l57r3 l57r4 l57r5a l57r5b l57r5 l57r6 l57r7 l57r8 l57r9 l57r10 l57r11 l57r12 l57r13 l57r14 l58r0 l58r1 l59r0 l59r1 l59r2 l59r3 l59r4 l59r5 l59r6 l59r7a l59r7b l59r7 l59r8 l59r9 l60r0 l60r1 l60r2 l60r3 l60r4 l60r5 l60r6 l60r7 l60r8 l60r9 l60r10a l60r10b l60r10 l60r11 l60r12 l60r13 l60r14a l60r14b l60r14 l60r15 l60r16a l60r16b l60r16 l60r17 l60r18 l60r19 l60r20a l60r20b l60r20 l60r21 l60r22 l60r23 l60r24 l60r25 l60r26 l60r27 l61r0 l61r1 l62r0 l62r1 l62r2 l62r3 l62r4 l62r5 l62r6 l62r7 l63r0 l63r1 l63r2 l63r3 l63r4 l63r5 l63r6 l63r7 l64r0 l64r1 l64r2 l64r3 l64r4 l64r5 l64r6 l65r0 l65r1 l66r0 l66r1 l67r0 l67r1 l67r2 l67r3 l67r4 l67r5 l67r6 l68r0 l68r1 l68r2 l68r3 l68r4a l68r4b l68r4 l68r5 l68r6 l69r0 l69r1 l69r2 l69r3 l69r4 l69r5 l69r6 l69r7 l70r0 l70r1 l70r2 l70r3 l70r4 l70r5 l70r6 l70r7 l71r0 l71r1 l71r2 l71r3 l71r4 l71r5 l71r6 l71r7 l72r0 l72r1 l72r2 l72r3 l72r4 l72r5 l72r6 l72r7 l73r0 l73r1 l73r2 l73r3 l73r4 l73r5 l73r6 l73r7 l74r0 l74r1 l74r2 l74r3 l74r4 l74r5a l74r5b l74r5 l74r6 l74r7 l74r8 l74r9 l74r10a l74r10b l74r10 l74r11 l74r12 l74r13 l74r14 l74r15 l75r0 l75r1a l75r1b l75r1 l75r2 l75r3 l75r4 l75r5 l75r6 l75r7 l76r0 l76r1a l76r1b l76r1 l77r0 l77r1 l77r2 l77r3 l77r4 l77r5 l77r6 l77r7 l77r8 l78r0 l78r1 l78r2 l78r3 l78r4 l78r5 l78r6 l78r7 l78r8 l78r9a l78r9b l78r9 l78r10a l78r10b l78r10 l78r11 l78r12 l79r0 l79r1 l79r2 l79r3 l79r4 l79r5 l79r6 l79r7 l79r8 l79r9 l79r10 l79r11 l79r12 l79r13 l80r0 l80r1 l80r2 l80r3 l80r4a l80r4b l80r4 l80r5 l81r0 l81r1 l81r2 l81r3 l81r4 l81r5 l81r6 l81r7 l81r8 l82r0 l82r1 l82r2 l82r3 l83r0 l83r1 l83r2 l83r3 l83r4 l83r5 l83r6 l83r7 l83r8 l83r9 l83r10 l83r11 l83r12 l83r13 l83r14 l83r15 l84r0 l84r1 l85r0 l85r1 l85r2 l85r3 l86r0 l86r1 l86r2 l86r3 l86r4 l86r5 l86r6 l87r0 l87r1 l87r2 l87r3 l87r4 l87r5 l87r6 l88r0 l88r1 l88r2 l88r3 l88r4a l88r4b l88r4 l88r5 l88r6a l88r6b l88r6 l88r7 l89r0 l89r1 l89r2 l89r3a l89r3b l89r3 l90r0 l90r1a l90r1b l90r1 l91r0 l91r1 l91r2 l91r3 l91r4 l91r5 l91r6 l91r7 l91r8 l91r9 l92r0 l92r1 l92r2 l92r3 l92r4 l92r5 l92r6 l92r7 l92r8 l92r9 l92r10 l92r11 l92r12 l92r13 l93r0 l93r1 l94r0 l94r1 l95r0 l95r1 l95r2 l95r3 l95r4 l95r5 l95r6 l95r7 l95r8 l96r0 l96r1 l97r0 l97r1 l98r0 l98r1 l98r2 l98r3 l99r0 l99r1 l99r2a l99r2b l99r2 l99r3 l99r4 l99r5a l99r5b l99r5 l99r6a l99r6b l99r6 l99r7 l99r8 l99r9 l100r0 l100r1 l101r0 l101r1 l101r2 l101r3 l101r4a l101r4b l101r4 l101r5a l101r5b l101r5 l101r6 l101r7 l102r0 l102r1a l102r1b l102r1 l104r0 l104r1 l104r2 l104r3 l104r4 l104r5a l104r5b l104r5 l104r6a l104r6b l104r6 l104r7 l104r8 l104r9 l104r10 l105r0 l105r1 l105r2 l105r3 l105r4 l105r5 l105r6 l105r7 l105r8 l105r9 l105r10 l106r0 l106r1 l106r2 l106r3 l106r4 l106r5 l106r6 l107r0 l107r1 l107r2a l107r2b l107r2 l107r3 l108r0 l108r1 l108r2 l108r3a l108r3b l108r3 l108r4 l108r5 l108r6 l109r0 l109r1 l109r2 l109r3 l109r4 l109r5 l109r6 l109r7 l109r8 l110r0 l110r1 l110r2 l110r3 l110r4 l110r5 l110r6
end Go.Proofs.YtapccmfnmiopoaaGreat
