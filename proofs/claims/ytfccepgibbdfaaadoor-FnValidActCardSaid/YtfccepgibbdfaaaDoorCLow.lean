import Derived.Test.YtfccepgibbdfaaaDoorCW3
import Derived.Test.YtfccepgibbdfaaaDoorProg
import Derived.KernelRfl
set_option maxRecDepth 100000
namespace Go.Proofs.YtfccepgibbdfaaaDoor
open Vw Go
/-- The other tables. -/
class PowA where
  rest:List (Nat × List Value)
instance globs [PowA]:Inhabited GlobT:=⟨⟨(0,[.string (ByteArray.mk (Array.mk [115,105,122,101])),.int .i64 1,.string (ByteArray.mk (Array.mk [118,105,101,119])),.int .i64 3,.string (ByteArray.mk (Array.mk [112,97,114,116])),.int .i64 4,.string (ByteArray.mk (Array.mk [102,108,105,112])),.int .i64 1,.string (ByteArray.mk (Array.mk [102,105,108,108])),.int .i64 2,.string (ByteArray.mk (Array.mk [99,111,112,121])),.int .i64 2,.string (ByteArray.mk (Array.mk [108,111,97,100])),.int .i64 1,.string (ByteArray.mk (Array.mk [102,114,101,101])),.int .i64 1]) :: PowA.rest⟩⟩
attribute [push_cast] Bool.false_eq_true List.length_replicate
attribute [bitvec_to_nat] decide_eq_true_eq decide_eq_false_iff_not Bool.not_eq_true' Bool.not_eq_false' Bool.and_eq_true Bool.or_eq_true Bool.and_eq_false_iff Bool.or_eq_false_iff Int.not_le Int.not_lt bne_iff_ne ne_eq beq_iff_eq Bool.not_eq_true Bool.not_eq_false
theorem sd {P:Prop} (h:P:=by first|assumption|rfl|omega|(simp<;>omega)|(simp_all<;>omega)):P:=h
abbrev oQ (d:Nat) (p:AOp) (a:List Nat):AOper:=⟨some d,p,none,a⟩
abbrev gQ (d:Nat) (p:AOp) (g:Option (Nat × Bool)) (a:List Nat):AOper:=⟨some d,p,g,a⟩
abbrev nQ (p:AOp) (a:List Nat):AOper:=⟨none,p,none,a⟩
abbrev Z0:=Operand.tmp 0
abbrev Z1:=Operand.tmp 1
abbrev Z2:=Operand.tmp 2
abbrev Z3:=Operand.tmp 3
abbrev Z4:=Operand.tmp 4
abbrev Z5:=Operand.tmp 5
abbrev Z6:=Operand.tmp 6
abbrev Z7:=Operand.tmp 7
abbrev Z8:=Operand.tmp 8
abbrev Z9:=Operand.tmp 9
abbrev Z10:=Operand.tmp 10
abbrev Z11:=Operand.tmp 11
abbrev Z12:=Operand.tmp 12
abbrev Z13:=Operand.tmp 13
abbrev Z14:=Operand.tmp 14
abbrev Z15:=Operand.tmp 15
abbrev Z16:=Operand.tmp 16
abbrev Z17:=Operand.tmp 17
abbrev Z18:=Operand.tmp 18
abbrev Z19:=Operand.tmp 19
abbrev Z20:=Operand.tmp 20
abbrev Z21:=Operand.tmp 21
abbrev Z22:=Operand.tmp 22
abbrev Z23:=Operand.tmp 23
abbrev Z24:=Operand.tmp 24
abbrev Z25:=Operand.tmp 25
abbrev Z26:=Operand.tmp 26
abbrev Z27:=Operand.tmp 27
abbrev Z28:=Operand.tmp 28
abbrev Z29:=Operand.tmp 29
abbrev Z30:=Operand.tmp 30
abbrev Z31:=Operand.tmp 31
abbrev Z32:=Operand.tmp 32
abbrev Z33:=Operand.tmp 33
abbrev Z34:=Operand.tmp 34
abbrev Z35:=Operand.tmp 35
abbrev Z36:=Operand.tmp 36
abbrev Z37:=Operand.tmp 37
abbrev Z38:=Operand.tmp 38
abbrev Z39:=Operand.tmp 39
abbrev Z40:=Operand.tmp 40
abbrev Z41:=Operand.tmp 41
abbrev Z42:=Operand.tmp 42
abbrev Z43:=Operand.tmp 43
abbrev Z44:=Operand.tmp 44
abbrev Z45:=Operand.tmp 45
abbrev Z46:=Operand.tmp 46
abbrev Z47:=Operand.tmp 47
abbrev Z48:=Operand.tmp 48
abbrev Z49:=Operand.tmp 49
abbrev Z50:=Operand.tmp 50
abbrev Z51:=Operand.tmp 51
abbrev Z52:=Operand.tmp 52
abbrev Z53:=Operand.tmp 53
abbrev Z54:=Operand.tmp 54
abbrev Z55:=Operand.tmp 55
abbrev Z56:=Operand.tmp 56
abbrev Z57:=Operand.tmp 57
abbrev Z58:=Operand.tmp 58
abbrev Z59:=Operand.tmp 59
abbrev Z60:=Operand.tmp 60
abbrev Z61:=Operand.tmp 61
abbrev Z62:=Operand.tmp 62
abbrev Z63:=Operand.tmp 63
abbrev Z64:=Operand.tmp 64
abbrev Z65:=Operand.tmp 65
abbrev Z66:=Operand.tmp 66
abbrev Z67:=Operand.tmp 67
abbrev Z68:=Operand.tmp 68
abbrev Z69:=Operand.tmp 69
abbrev Z70:=Operand.tmp 70
abbrev Z71:=Operand.tmp 71
abbrev Z72:=Operand.tmp 72
abbrev Z73:=Operand.tmp 73
abbrev Z74:=Operand.tmp 74
abbrev Z75:=Operand.tmp 75
abbrev Z76:=Operand.tmp 76
abbrev Z77:=Operand.tmp 77
abbrev Z78:=Operand.tmp 78
abbrev Z79:=Operand.tmp 79
abbrev Z80:=Operand.tmp 80
abbrev Z81:=Operand.tmp 81
abbrev Z82:=Operand.tmp 82
abbrev Z83:=Operand.tmp 83
abbrev Z84:=Operand.tmp 84
abbrev Z85:=Operand.tmp 85
abbrev Z86:=Operand.tmp 86
abbrev Z87:=Operand.tmp 87
abbrev Z88:=Operand.tmp 88
abbrev Z89:=Operand.tmp 89
abbrev Z90:=Operand.tmp 90
abbrev Z91:=Operand.tmp 91
abbrev Z92:=Operand.tmp 92
abbrev Z93:=Operand.tmp 93
abbrev Z94:=Operand.tmp 94
abbrev Z95:=Operand.tmp 95
abbrev Z96:=Operand.tmp 96
abbrev Z97:=Operand.tmp 97
abbrev Z98:=Operand.tmp 98
abbrev Z99:=Operand.tmp 99
abbrev Z100:=Operand.tmp 100
abbrev Z101:=Operand.tmp 101
abbrev Z102:=Operand.tmp 102
abbrev Z103:=Operand.tmp 103
abbrev Z104:=Operand.tmp 104
abbrev Z105:=Operand.tmp 105
def l4r0:List AOper :=
  [oQ 2 (.mv (.const (.bool false))) []]
def l4r1:List AOper :=
  [oQ 5 (.mv Z0) [],oQ 6 (.len Z5) [0],oQ 7 (.bin .gtr Z6 (.const (.int .i64 1048576))) [1]]
def l4r2:List AOper :=
  [oQ 2 (.mv (.const (.bool true))) []]
def l4r3:List AOper :=
  [oQ 8 (.mv Z0) [],oQ 9 (.call 10 [Z8]) [0],oQ 3 (.alloc [.int .i64 0,.slice none 0 0]) [],nQ (.store 2 Z3 Z9) [2,1,1,0,1,2]]
def l4r4:List AOper :=
  [oQ 10 (.load true 2 Z3) [],oQ 11 (.call 11 [Z10]) [0],oQ 4 (.mv Z11) [1,1,0,1]]
def l4r5:List AOper :=
  [oQ 12 (.mv Z4) [],oQ 13 (.load true 2 Z3) [],oQ 14 (.call 12 [Z13]) [1],oQ 15 (.binB .neq Z12 Z14) [0,2],oQ 16 (.mv Z15) [3,2],gQ 17 (.mv Z4) (some (16,false)) [4],gQ 18 (.un .not Z17) (some (16,false)) [5,4],oQ 19 (.pick Z16 (.const (.bool true)) Z18) [4,6]]
def l4r6:List AOper :=
  [oQ 20 (.mv Z4) [],oQ 21 (.load true 2 Z3) [],oQ 22 (.call 12 [Z21]) [1],oQ 23 (.binB .eql Z20 Z22) [0,2],oQ 2 (.mv Z23) [3,2,0,1,2,3]]
def l4r7a:List AOper :=
  [oQ 24 (.fld 0 Z3) [],oQ 25 (.load false 1 Z24) [0],oQ 26 (.build [.int .i64 0,.slice none 0 0] [(0,1,Z25)]) [1],oQ 27 (.call 11 [Z26]) [2],oQ 28 (.un .not Z27) [3],oQ 29 (.mv Z28) [4,3],gQ 30 (.fld 0 Z3) (some (29,true)) [5],gQ 31 (.load false 1 Z30) (some (29,true)) [6,5],gQ 32 (.fld 1 Z3) (some (29,true)) [5],gQ 33 (.load false 1 Z32) (some (29,true)) [8,5],gQ 34 (.len Z33) (some (29,true)) [9,5],gQ 35 (.mkslice 1 [.int .i64 0] Z34 Z34) (some (29,true)) [10,10,5]]
def l4r7b:List AOper :=
  [gQ 36 (.build [.int .i64 0,.slice none 0 0] [(0,1,Z31),(1,1,Z35)]) (some (29,true)) [7,11,5],gQ 37 (.call 11 [Z36]) (some (29,true)) [12,5,5],oQ 38 (.pick Z29 Z37 (.const (.bool false))) [5,13],oQ 2 (.mv Z38) [14,13,0,1,2,3,4,5,6,7,8,9,10,11,12,13,14]]
def l4r7:List AOper:=l4r7a ++ l4r7b
def l4:AFn :=
  (AFn.mk 39 1 (.seq (.reg l4r0) (.seq (.seq (.reg l4r1) (.cond (.tmp 7) (.seq (.reg l4r2) .ret) .skip)) (.seq (.reg l4r3) (.seq (.reg l4r4) (.seq (.seq (.reg l4r5) (.cond (.tmp 19) (.seq (.reg l4r6) .ret) .skip)) (.seq (.draw l4r7) .ret)))))) [.tmp 2])
theorem l4_eq:lowFn Tryd.prog 4=some l4:=by kernel_rfl
def l10r0:List AOper :=
  [oQ 2 (.alloc [.int .i64 0,.slice none 0 0]) []]
def l10r1:List AOper :=
  [oQ 4 (.mv Z0) [],oQ 5 (.call 20 [Z4]) [0],oQ 3 (.mv Z5) [1,1,0,1]]
def l10r2:List AOper :=
  [oQ 6 (.mv Z3) [],oQ 7 (.mv Z3) [],oQ 8 (.call 22 [Z7]) [1],oQ 9 (.call 21 [Z6,Z8]) [0,2,2],nQ (.store 2 Z2 Z9) [3,3,0,1,2,3]]
def l10:AFn :=
  (AFn.mk 10 1 (.seq (.reg l10r0) (.seq (.reg l10r1) (.seq (.reg l10r2) .ret))) [.cell 2 true 2])
theorem l10_eq:lowFn Tryd.prog 10=some l10:=by kernel_rfl
def l11r0:List AOper :=
  [oQ 1 (.box Z0) [],oQ 2 (.mv (.const (.bool false))) []]
def l11r1a:List AOper :=
  [oQ 5 (.fld 0 Z1) [],oQ 6 (.load false 1 Z5) [0],oQ 7 (.call 23 [Z6,.const (.int .i64 7)]) [1],oQ 8 (.un .not Z7) [2],oQ 9 (.mv Z8) [3,2],gQ 10 (.fld 1 Z1) (some (9,false)) [4],gQ 11 (.load false 1 Z10) (some (9,false)) [5,4],gQ 12 (.len Z11) (some (9,false)) [6,4],gQ 13 (.fld 0 Z1) (some (9,false)) [4],gQ 14 (.load false 1 Z13) (some (9,false)) [8,4],gQ 15 (.idxP 2 8 (.global 0) Z14) (some (9,false)) [9,4],gQ 16 (.fld 1 Z15) (some (9,false)) [10,4],gQ 17 (.load false 1 Z16) (some (9,false)) [11,4]]
def l11r1b:List AOper :=
  [gQ 18 (.bin .neq Z12 Z17) (some (9,false)) [7,12,4],oQ 19 (.pick Z9 (.const (.bool true)) Z18) [4,13]]
def l11r1:List AOper:=l11r1a ++ l11r1b
def l11r2:List AOper :=
  [oQ 2 (.mv (.const (.bool false))) []]
def l11r3:List AOper :=
  [oQ 20 (.fld 1 Z1) [],oQ 21 (.load false 1 Z20) [0],oQ 22 (.len Z21) [1],oQ 23 (.mv (.const (.int .i64 0))) []]
def l11r4:List AOper :=
  [oQ 24 (.bin .lss Z23 Z22) []]
def l11r5:List AOper :=
  [oQ 25 (.idxA 1 Z21 Z23) [],oQ 26 (.load false 1 Z25) [0],oQ 4 (.mv Z26) [1,0,1]]
def l11r6:List AOper :=
  [oQ 27 (.mv Z4) [],oQ 28 (.call 24 [Z27,.const (.int .i64 100)]) [0],oQ 29 (.un .not Z28) [1]]
def l11r7:List AOper :=
  [oQ 2 (.mv (.const (.bool false))) []]
def l11r8:List AOper :=
  [oQ 30 (.bin .add Z23 (.const (.int .i64 1))) [],oQ 23 (.mv Z30) [0]]
def l11r9:List AOper :=
  [oQ 2 (.mv (.const (.bool true))) []]
def l11:AFn :=
  (AFn.mk 31 1 (.seq (.reg l11r0) (.seq (.seq (.draw l11r1) (.cond (.tmp 19) (.seq (.reg l11r2) .ret) .skip)) (.seq (.seq (.reg l11r3) (.block 0 (.loop (.seq (.reg l11r4) (.seq (.cond (.tmp 24) .skip (.exit 0)) (.seq (.block 1 (.seq (.reg l11r5) (.seq (.reg l11r6) (.cond (.tmp 29) (.seq (.reg l11r7) .ret) .skip)))) (.reg l11r8))))))) (.seq (.reg l11r9) .ret)))) [.tmp 2])
theorem l11_eq:lowFn Tryd.prog 11=some l11:=by kernel_rfl
def l12r0:List AOper :=
  [oQ 1 (.box Z0) [],oQ 2 (.mv (.const (.bool false))) []]
def l12r1:List AOper :=
  [oQ 3 (.load true 2 Z1) [],oQ 4 (.call 14 [Z3]) [0],oQ 2 (.mv Z4) [1,1,0,1]]
def l12:AFn :=
  (AFn.mk 5 1 (.seq (.reg l12r0) (.seq (.reg l12r1) .ret)) [.tmp 2])
theorem l12_eq:lowFn Tryd.prog 12=some l12:=by kernel_rfl
def l14r0:List AOper :=
  [oQ 1 (.box Z0) [],oQ 2 (.mv (.const (.bool false))) []]
def l14r1a:List AOper :=
  [oQ 3 (.fld 0 Z1) [],oQ 4 (.load false 1 Z3) [0],oQ 5 (.call 25 [Z4,.const (.int .i64 0),.const (.int .i64 7)]) [1],oQ 6 (.mv Z5) [2,2],gQ 7 (.fld 1 Z1) (some (6,true)) [3],gQ 8 (.load false 1 Z7) (some (6,true)) [4,3],gQ 9 (.len Z8) (some (6,true)) [5,3],gQ 10 (.fld 0 Z1) (some (6,true)) [3],gQ 11 (.load false 1 Z10) (some (6,true)) [7,3],gQ 12 (.call 26 [Z11]) (some (6,true)) [8,3,3]]
def l14r1b:List AOper :=
  [gQ 13 (.bin .eql Z9 Z12) (some (6,true)) [6,9,3],oQ 14 (.pick Z6 Z13 (.const (.bool false))) [3,10],oQ 15 (.mv Z14) [11,9],gQ 16 (.fld 1 Z1) (some (15,true)) [12],gQ 17 (.load false 1 Z16) (some (15,true)) [13,12],gQ 18 (.call 27 [Z17,.const (.int .i64 (-100)),.const (.int .i64 100)]) (some (15,true)) [14,12,12],oQ 19 (.pick Z15 Z18 (.const (.bool false))) [12,15],oQ 2 (.mv Z19) [16,15,0,1,2,3,4,5,6,7,8,9,10,11,12,13,14,15,16]]
def l14r1:List AOper:=l14r1a ++ l14r1b
def l14:AFn :=
  (AFn.mk 20 1 (.seq (.reg l14r0) (.seq (.draw l14r1) .ret)) [.tmp 2])
theorem l14_eq:lowFn Tryd.prog 14=some l14:=by kernel_rfl
def l16r0:List AOper :=
  [oQ 2 (.mv (.const (.string (ByteArray.mk (Array.mk []))))) []]
def l16r1:List AOper :=
  [oQ 3 (.mv (.const (.string (ByteArray.mk (Array.mk []))))) []]
def l16r2:List AOper :=
  [oQ 4 (.mv (.const (.int .i64 0))) []]
def l16r3:List AOper :=
  [oQ 5 (.mv Z4) [],oQ 6 (.mv Z0) [],oQ 7 (.len Z6) [1],oQ 8 (.bin .lss Z5 Z7) [0,2]]
def l16r4:List AOper :=
  [oQ 11 (.mv Z3) [],oQ 12 (.bin .add Z11 (.const (.string (ByteArray.mk (Array.mk [(32:UInt8)]))))) [0],oQ 13 (.mv Z0) [],oQ 14 (.mv Z4) [],oQ 15 (.idxA 1 Z13 Z14) [2,3],oQ 16 (.load false 1 Z15) [4],oQ 17 (.call 28 [Z16]) [5],oQ 18 (.bin .add Z12 Z17) [1,6],oQ 3 (.mv Z18) [7,6,0,1,2,3,4,5,6,7]]
def l16r5:List AOper :=
  [oQ 9 (.mv Z4) [],oQ 10 (.bin .add Z9 (.const (.int .i64 1))) [0],oQ 4 (.mv Z10) [1,0,1]]
def l16r6:List AOper :=
  [oQ 19 (.mv Z3) [],oQ 2 (.mv Z19) [0,0]]
def l16:AFn :=
  (AFn.mk 20 1 (.seq (.reg l16r0) (.seq (.reg l16r1) (.seq (.seq (.reg l16r2) (.block 0 (.loop (.seq (.seq (.reg l16r3) (.cond (.tmp 8) .skip (.exit 0))) (.seq (.block 1 (.reg l16r4)) (.reg l16r5)))))) (.seq (.reg l16r6) .ret)))) [.tmp 2])
theorem l16_eq:lowFn Tryd.prog 16=some l16:=by kernel_rfl
def l20r0:List AOper :=
  [oQ 2 (.mv (.const (.pointer none))) []]
def l20r1:List AOper :=
  [oQ 3 (.mv Z0) [],oQ 4 (.len Z3) [0],oQ 5 (.bin .gtr Z4 (.const (.int .i64 2000))) [1]]
def l20r2:List AOper :=
  [oQ 6 (.mv Z0) [],oQ 7 (.slice 1 Z6 none (some (.const (.int .i64 2000)))) [0],oQ 0 (.mv Z7) [1,0,1]]
def l20r3:List AOper :=
  [oQ 8 (.mv Z0) [],oQ 9 (.build [.slice none 0 0,.int .i64 0] [(0,1,Z8)]) [0],oQ 10 (.box Z9) [1],oQ 2 (.mv Z10) [2,0,1,2]]
def l20:AFn :=
  (AFn.mk 11 1 (.seq (.reg l20r0) (.seq (.seq (.reg l20r1) (.cond (.tmp 5) (.reg l20r2) .skip)) (.seq (.reg l20r3) .ret))) [.tmp 2])
theorem l20_eq:lowFn Tryd.prog 20=some l20:=by kernel_rfl
def l21r0:List AOper :=
  [oQ 3 (.box Z1) [],oQ 4 (.alloc [.int .i64 0,.slice none 0 0]) []]
def l21r1:List AOper :=
  [oQ 6 (.mv Z0) [],oQ 7 (.load true 2 Z3) [],oQ 8 (.call 30 [Z6,Z7]) [0,1],oQ 5 (.alloc [.int .i64 0,.slice none 0 0]) [],nQ (.store 2 Z5 Z8) [3,2,2,0,1,2,3]]
def l21r2:List AOper :=
  [oQ 9 (.mv Z0) [],oQ 10 (.call 31 [Z9,.const (.int .i64 16)]) [0]]
def l21r3:List AOper :=
  [oQ 12 (.bin .eql Z10 (.const (.int .i64 0))) [],oQ 11 (.mv Z12) [0]]
def l21r4:List AOper :=
  [oQ 13 (.mv Z0) [],oQ 14 (.bslice 1 [.int .i64 0] [(0,.const (.int .i64 (-1))),(1,.const (.int .i64 8)),(2,.const (.int .i64 1))] 3) [],oQ 15 (.call 32 [Z13,Z14]) [0,1],oQ 16 (.fld 0 Z5) [0,1,2],nQ (.store 1 Z16 Z15) [3,2,2,0,1,2]]
def l21r5:List AOper :=
  [oQ 18 (.bin .eql Z10 (.const (.int .i64 1))) [],oQ 17 (.mv Z18) [0]]
def l21r6:List AOper :=
  [oQ 19 (.fld 1 Z5) [],oQ 20 (.load false 1 Z19) [0],oQ 21 (.bslice 1 [.int .i64 0] [(0,.const (.int .i64 1))] 1) [],oQ 22 (.append 1 Z20 Z21) [1,2],oQ 23 (.fld 1 Z5) [0,1,2,3],nQ (.store 1 Z23 Z22) [4,3,3,0,1,2,3]]
def l21r7:List AOper :=
  [oQ 25 (.bin .eql Z10 (.const (.int .i64 2))) [],oQ 24 (.mv Z25) [0]]
def l21r8a:List AOper :=
  [oQ 26 (.fld 1 Z5) [],oQ 27 (.load false 1 Z26) [0],oQ 28 (.mv Z0) [],oQ 29 (.bslice 1 [.int .i64 0] [(0,.const (.int .i64 (-101))),(1,.const (.int .i64 101)),(2,.const (.int .i64 (-1))),(3,.const (.int .i64 100))] 4) [],oQ 30 (.call 32 [Z28,Z29]) [2,3]]
def l21r8b:List AOper :=
  [oQ 31 (.idxA 1 Z27 (.const (.int .i64 0))) [1,0,1,2,3,4],nQ (.store 1 Z31 Z30) [5,4,4,0,1,2,3,4]]
def l21r8:List AOper:=l21r8a ++ l21r8b
def l21r9:List AOper :=
  [oQ 32 (.load true 2 Z5) [],nQ (.store 2 Z4 Z32) [0,0]]
def l21:AFn :=
  (AFn.mk 33 2 (.seq (.reg l21r0) (.seq (.reg l21r1) (.seq (.seq (.reg l21r2) (.block 0 (.seq (.reg l21r3) (.cond (.tmp 11) (.reg l21r4) (.seq (.reg l21r5) (.cond (.tmp 17) (.reg l21r6) (.seq (.reg l21r7) (.cond (.tmp 24) (.draw l21r8) .skip)))))))) (.seq (.reg l21r9) .ret)))) [.cell 4 true 2])
theorem l21_eq:lowFn Tryd.prog 21=some l21:=by kernel_rfl
def l22r0:List AOper :=
  [oQ 2 (.alloc [.slice none 0 0,.slice none 0 0]) []]
def l22r1:List AOper :=
  [oQ 5 (.mv Z0) [],oQ 6 (.bslice 1 [.int .i64 0] [(0,.const (.int .i64 12)),(1,.const (.int .i64 20)),(2,.const (.int .i64 16)),(3,.const (.int .i64 8)),(4,.const (.int .i64 0))] 5) [],oQ 7 (.call 32 [Z5,Z6]) [0,1],oQ 8 (.call 33 [Z7]) [2,2],oQ 3 (.alloc [.slice none 0 0,.slice none 0 0]) [],nQ (.store 2 Z3 Z8) [4,3,3,0,1,2,3,4]]
def l22r2:List AOper :=
  [oQ 9 (.mv Z0) [],oQ 10 (.bslice 1 [.int .i64 0] [(0,.const (.int .i64 5)),(1,.const (.int .i64 4)),(2,.const (.int .i64 6)),(3,.const (.int .i64 3)),(4,.const (.int .i64 8)),(5,.const (.int .i64 0))] 6) [],oQ 11 (.call 32 [Z9,Z10]) [0,1],oQ 4 (.mv Z11) [2,2,0,1,2]]
def l22r3:List AOper :=
  [oQ 12 (.mv Z4) [],oQ 13 (.bin .gtr Z12 (.const (.int .i64 0))) [0]]
def l22r4a:List AOper :=
  [oQ 17 (.load true 2 Z3) [],oQ 18 (.mv Z0) [],oQ 19 (.load true 2 Z3) [],oQ 20 (.call 30 [Z18,Z19]) [1,2],oQ 21 (.call 34 [Z17,Z20]) [0,3,3],oQ 16 (.mv Z21) [4],oQ 22 (.extract Z16 0) [5],oQ 23 (.extract Z16 1) [5],nQ (.store 2 Z3 Z22) [6,4,0,1,2,3,4,5,6]]
def l22r4b:List AOper :=
  []
def l22r4:List AOper:=l22r4a ++ l22r4b
def l22r5:List AOper :=
  [oQ 14 (.mv Z4) [],oQ 15 (.bin .sub Z14 (.const (.int .i64 1))) [0],oQ 4 (.mv Z15) [1,0,1]]
def l22r6:List AOper :=
  [oQ 24 (.load true 2 Z3) [],nQ (.store 2 Z2 Z24) [0,0]]
def l22:AFn :=
  (AFn.mk 25 1 (.seq (.reg l22r0) (.seq (.reg l22r1) (.seq (.seq (.reg l22r2) (.block 0 (.loop (.seq (.seq (.reg l22r3) (.cond (.tmp 13) .skip (.exit 0))) (.seq (.block 1 (.draw l22r4)) (.reg l22r5)))))) (.seq (.reg l22r6) .ret)))) [.cell 2 true 2])
theorem l22_eq:lowFn Tryd.prog 22=some l22:=by kernel_rfl
def l23r0:List AOper :=
  [oQ 4 (.mv (.const (.bool false))) []]
def l23r1:List AOper :=
  [oQ 5 (.mv Z0) [],oQ 6 (.bin .leq (.const (.int .i64 0)) Z5) [0],oQ 7 (.mv Z6) [1],gQ 8 (.mv Z0) (some (7,true)) [2],gQ 9 (.mv Z1) (some (7,true)) [2],gQ 10 (.bin .leq Z8 Z9) (some (7,true)) [3,4,2],oQ 11 (.pick Z7 Z10 (.const (.bool false))) [2,5],oQ 4 (.mv Z11) [6,2,0,1,2,3,4,5,6]]
def l23:AFn :=
  (AFn.mk 12 2 (.seq (.reg l23r0) (.seq (.reg l23r1) .ret)) [.tmp 4])
theorem l23_eq:lowFn Tryd.prog 23=some l23:=by kernel_rfl
def l24r0:List AOper :=
  [oQ 4 (.mv (.const (.bool false))) []]
def l24r1:List AOper :=
  [oQ 5 (.mv Z1) [],oQ 6 (.un .neg Z5) [0],oQ 7 (.mv Z0) [],oQ 8 (.bin .leq Z6 Z7) [1,2],oQ 9 (.mv Z8) [3],gQ 10 (.mv Z0) (some (9,true)) [4],gQ 11 (.mv Z1) (some (9,true)) [4],gQ 12 (.bin .leq Z10 Z11) (some (9,true)) [5,6,4],oQ 13 (.pick Z9 Z12 (.const (.bool false))) [4,7],oQ 4 (.mv Z13) [8,4,0,1,2,3,4,5,6,7,8]]
def l24:AFn :=
  (AFn.mk 14 2 (.seq (.reg l24r0) (.seq (.reg l24r1) .ret)) [.tmp 4])
theorem l24_eq:lowFn Tryd.prog 24=some l24:=by kernel_rfl
def l25r0:List AOper :=
  [oQ 6 (.mv (.const (.bool false))) []]
def l25r1:List AOper :=
  [oQ 7 (.mv Z1) [],oQ 8 (.mv Z0) [],oQ 9 (.bin .leq Z7 Z8) [0,1],oQ 10 (.mv Z9) [2],gQ 11 (.mv Z0) (some (10,true)) [3],gQ 12 (.mv Z2) (some (10,true)) [3],gQ 13 (.bin .leq Z11 Z12) (some (10,true)) [4,5,3],oQ 14 (.pick Z10 Z13 (.const (.bool false))) [3,6],oQ 6 (.mv Z14) [7,3,0,1,2,3,4,5,6,7]]
def l25:AFn :=
  (AFn.mk 15 3 (.seq (.reg l25r0) (.seq (.reg l25r1) .ret)) [.tmp 6])
theorem l25_eq:lowFn Tryd.prog 25=some l25:=by kernel_rfl
def l26r0:List AOper :=
  [oQ 2 (.mv (.const (.int .i64 0))) []]
def l26r1:List AOper :=
  [oQ 3 (.bslice 1 [.int .i64 0] [(0,.const (.int .i64 1)),(1,.const (.int .i64 3)),(2,.const (.int .i64 4)),(3,.const (.int .i64 1)),(4,.const (.int .i64 2)),(5,.const (.int .i64 2)),(6,.const (.int .i64 1)),(7,.const (.int .i64 1))] 8) [],oQ 4 (.mv Z0) [],oQ 5 (.idxA 1 Z3 Z4) [0,1],oQ 6 (.load false 1 Z5) [2],oQ 2 (.mv Z6) [3,0,1,2,3]]
def l26:AFn :=
  (AFn.mk 7 1 (.seq (.reg l26r0) (.seq (.reg l26r1) .ret)) [.tmp 2])
theorem l26_eq:lowFn Tryd.prog 26=some l26:=by kernel_rfl
def l27r0:List AOper :=
  [oQ 6 (.mv (.const (.bool false))) []]
def l27r1:List AOper :=
  [oQ 7 (.mv (.const (.int .i64 0))) []]
def l27r2:List AOper :=
  [oQ 8 (.mv Z7) [],oQ 9 (.mv Z0) [],oQ 10 (.len Z9) [1],oQ 11 (.bin .lss Z8 Z10) [0,2]]
def l27r3:List AOper :=
  [oQ 14 (.mv Z0) [],oQ 15 (.mv Z7) [],oQ 16 (.idxA 1 Z14 Z15) [0,1],oQ 17 (.load false 1 Z16) [2],oQ 18 (.mv Z1) [],oQ 19 (.mv Z2) [],oQ 20 (.call 25 [Z17,Z18,Z19]) [3,4,5],oQ 21 (.un .not Z20) [6]]
def l27r4:List AOper :=
  [oQ 6 (.mv (.const (.bool false))) []]
def l27r5:List AOper :=
  [oQ 12 (.mv Z7) [],oQ 13 (.bin .add Z12 (.const (.int .i64 1))) [0],oQ 7 (.mv Z13) [1,0,1]]
def l27r6:List AOper :=
  [oQ 6 (.mv (.const (.bool true))) []]
def l27:AFn :=
  (AFn.mk 22 3 (.seq (.reg l27r0) (.seq (.seq (.reg l27r1) (.block 0 (.loop (.seq (.seq (.reg l27r2) (.cond (.tmp 11) .skip (.exit 0))) (.seq (.block 1 (.seq (.reg l27r3) (.cond (.tmp 21) (.seq (.reg l27r4) .ret) .skip))) (.reg l27r5)))))) (.seq (.reg l27r6) .ret))) [.tmp 6])
theorem l27_eq:lowFn Tryd.prog 27=some l27:=by kernel_rfl
def l28r0:List AOper :=
  [oQ 2 (.mv (.const (.string (ByteArray.mk (Array.mk []))))) []]
def l28r1:List AOper :=
  [oQ 3 (.mv Z0) [],oQ 4 (.bin .lss Z3 (.const (.int .i64 0))) [0],oQ 5 (.mv Z4) [1],gQ 6 (.mv Z0) (some (5,true)) [2],gQ 7 (.mv Z0) (some (5,true)) [2],gQ 8 (.un .neg Z7) (some (5,true)) [4,2],gQ 9 (.bin .eql Z6 Z8) (some (5,true)) [3,5,2],oQ 10 (.pick Z5 Z9 (.const (.bool false))) [2,6]]
def l28r2:List AOper :=
  [oQ 2 (.mv (.const (.string (ByteArray.mk (Array.mk [(45:UInt8),(57:UInt8),(50:UInt8),(50:UInt8),(51:UInt8),(51:UInt8),(55:UInt8),(50:UInt8),(48:UInt8),(51:UInt8),(54:UInt8),(56:UInt8),(53:UInt8),(52:UInt8),(55:UInt8),(55:UInt8),(53:UInt8),(56:UInt8),(48:UInt8),(56:UInt8)]))))) []]
def l28r3:List AOper :=
  [oQ 11 (.mv Z0) [],oQ 12 (.bin .lss Z11 (.const (.int .i64 0))) [0]]
def l28r4:List AOper :=
  [oQ 13 (.mv Z0) [],oQ 14 (.un .neg Z13) [0],oQ 15 (.call 28 [Z14]) [1],oQ 16 (.bin .add (.const (.string (ByteArray.mk (Array.mk [(45:UInt8)])))) Z15) [2],oQ 2 (.mv Z16) [3,2,0,1,2,3]]
def l28r5:List AOper :=
  [oQ 17 (.mv Z0) [],oQ 18 (.bin .lss Z17 (.const (.int .i64 10))) [0]]
def l28r6:List AOper :=
  [oQ 19 (.mv Z0) [],oQ 20 (.mv Z0) [],oQ 21 (.bin .add Z20 (.const (.int .i64 1))) [1],oQ 22 (.sliceS (.const (.string (ByteArray.mk (Array.mk [(48:UInt8),(49:UInt8),(50:UInt8),(51:UInt8),(52:UInt8),(53:UInt8),(54:UInt8),(55:UInt8),(56:UInt8),(57:UInt8)])))) (some Z19) (some Z21)) [0,2],oQ 2 (.mv Z22) [3,0,1,2,3]]
def l28r7:List AOper :=
  [oQ 23 (.mv Z0) [],oQ 24 (.bin .quo Z23 (.const (.int .i64 10))) [0],oQ 25 (.call 28 [Z24]) [1],oQ 26 (.mv Z0) [],oQ 27 (.bin .rem Z26 (.const (.int .i64 10))) [3],oQ 28 (.call 28 [Z27]) [4,2],oQ 29 (.bin .add Z25 Z28) [2,5],oQ 2 (.mv Z29) [6,5,0,1,2,3,4,5,6]]
def l28:AFn :=
  (AFn.mk 30 1 (.seq (.reg l28r0) (.seq (.seq (.reg l28r1) (.cond (.tmp 10) (.seq (.reg l28r2) .ret) .skip)) (.seq (.seq (.reg l28r3) (.cond (.tmp 12) (.seq (.reg l28r4) .ret) .skip)) (.seq (.seq (.reg l28r5) (.cond (.tmp 18) (.seq (.reg l28r6) .ret) .skip)) (.seq (.reg l28r7) .ret))))) [.tmp 2])
theorem l28_eq:lowFn Tryd.prog 28=some l28:=by kernel_rfl
def l30r0:List AOper :=
  [oQ 3 (.box Z1) [],oQ 4 (.alloc [.int .i64 0,.slice none 0 0]) []]
def l30r1:List AOper :=
  [oQ 8 (.mv Z0) [],oQ 9 (.fld 1 Z3) [],oQ 10 (.load false 1 Z9) [1],oQ 11 (.len Z10) [2],oQ 12 (.bin .add Z11 (.const (.int .i64 1))) [3],oQ 13 (.call 31 [Z8,Z12]) [0,4],oQ 5 (.mv Z13) [5,5,0,1,2,3,4,5]]
def l30r2:List AOper :=
  [oQ 14 (.load true 2 Z3) [],oQ 15 (.call 36 [Z14]) [0],oQ 6 (.mv Z15) [1,1,0,1]]
def l30r3:List AOper :=
  [oQ 16 (.mv Z6) [],oQ 17 (.len Z16) [0],oQ 18 (.bin .gtr Z17 (.const (.int .i64 0))) [1],oQ 19 (.mv Z18) [2],gQ 20 (.mv Z0) (some (19,true)) [3],gQ 21 (.call 31 [Z20,.const (.int .i64 4)]) (some (19,true)) [4,3,3],gQ 22 (.bin .gtr Z21 (.const (.int .i64 0))) (some (19,true)) [5,3],oQ 23 (.pick Z19 Z22 (.const (.bool false))) [3,6]]
def l30r4:List AOper :=
  [oQ 24 (.mv Z6) [],oQ 25 (.mv Z0) [],oQ 26 (.mv Z6) [],oQ 27 (.len Z26) [2],oQ 28 (.call 31 [Z25,Z27]) [1,3],oQ 29 (.idxA 1 Z24 Z28) [0,4],oQ 30 (.load false 1 Z29) [5],oQ 5 (.mv Z30) [6,4,0,1,2,3,4,5,6]]
def l30r5:List AOper :=
  [oQ 31 (.mv Z0) [],oQ 32 (.bslice 1 [.int .i64 0] [(0,.const (.int .i64 1)),(1,.const (.int .i64 2)),(2,.const (.int .i64 3)),(3,.const (.int .i64 4)),(4,.const (.int .i64 5)),(5,.const (.int .i64 6)),(6,.const (.int .i64 7)),(7,.const (.int .i64 0)),(8,.const (.int .i64 6)),(9,.const (.int .i64 4))] 10) [],oQ 33 (.call 32 [Z31,Z32]) [0,1],oQ 7 (.mv Z33) [2,2,0,1,2]]
def l30r6:List AOper :=
  [oQ 34 (.mv Z7) []]
def l30r7:List AOper :=
  [oQ 40 (.bin .eql Z34 (.const (.int .i64 0))) [],oQ 39 (.mv Z40) [0]]
def l30r8:List AOper :=
  [oQ 41 (.mv Z7) [],oQ 42 (.mv Z0) [],oQ 43 (.bslice 1 [.int .i64 0] [(0,.const (.int .i64 12)),(1,.const (.int .i64 20)),(2,.const (.int .i64 8)),(3,.const (.int .i64 30)),(4,.const (.int .i64 0))] 5) [],oQ 44 (.call 32 [Z42,Z43]) [1,2],oQ 45 (.bslice 1 [.int .i64 0] [(0,Z44)] 1) [3],oQ 46 (.build [.int .i64 0,.slice none 0 0] [(0,1,Z41),(1,1,Z45)]) [0,4],nQ (.store 2 Z4 Z46) [5,3,0,1,2,3,4,5]]
def l30r9:List AOper :=
  [oQ 48 (.bin .eql Z34 (.const (.int .i64 1))) [],oQ 47 (.mv Z48) [0]]
def l30r10:List AOper :=
  [oQ 49 (.mv Z7) [],oQ 50 (.mv Z0) [],oQ 51 (.call 31 [Z50,.const (.int .i64 6)]) [1],oQ 52 (.mv Z0) [],oQ 53 (.bslice 1 [.int .i64 0] [(0,.const (.int .i64 4)),(1,.const (.int .i64 3)),(2,.const (.int .i64 5)),(3,.const (.int .i64 2)),(4,.const (.int .i64 0))] 5) [],oQ 54 (.call 32 [Z52,Z53]) [3,4,2],oQ 55 (.mv Z0) [],oQ 56 (.bslice 1 [.int .i64 0] [(0,.const (.int .i64 1)),(1,.const (.int .i64 2)),(2,.const (.int .i64 3)),(3,.const (.int .i64 0)),(4,.const (.int .i64 (-1)))] 5) [],oQ 57 (.call 32 [Z55,Z56]) [6,7,5],oQ 58 (.bslice 1 [.int .i64 0] [(0,Z51),(1,Z54),(2,Z57)] 3) [2,5,8],oQ 59 (.build [.int .i64 0,.slice none 0 0] [(0,1,Z49),(1,1,Z58)]) [0,9],nQ (.store 2 Z4 Z59) [10,8,0,1,2,3,4,5,6,7,8,9,10]]
def l30r11:List AOper :=
  [oQ 61 (.bin .eql Z34 (.const (.int .i64 2))) [],oQ 60 (.mv Z61) [0]]
def l30r12:List AOper :=
  [oQ 62 (.mv Z7) [],oQ 63 (.mv Z5) [],oQ 64 (.mv Z0) [],oQ 65 (.call 31 [Z64,.const (.int .i64 4)]) [2],oQ 66 (.mv Z0) [],oQ 67 (.bslice 1 [.int .i64 0] [(0,.const (.int .i64 3)),(1,.const (.int .i64 4)),(2,.const (.int .i64 (-1))),(3,.const (.int .i64 2))] 4) [],oQ 68 (.call 32 [Z66,Z67]) [4,5,3],oQ 69 (.mv Z0) [],oQ 70 (.bslice 1 [.int .i64 0] [(0,.const (.int .i64 1)),(1,.const (.int .i64 2)),(2,.const (.int .i64 (-1))),(3,.const (.int .i64 1))] 4) [],oQ 71 (.call 32 [Z69,Z70]) [7,8,6],oQ 72 (.bslice 1 [.int .i64 0] [(0,Z63),(1,Z65),(2,Z68),(3,Z71)] 4) [1,3,6,9],oQ 73 (.build [.int .i64 0,.slice none 0 0] [(0,1,Z62),(1,1,Z72)]) [0,10],nQ (.store 2 Z4 Z73) [11,9,0,1,2,3,4,5,6,7,8,9,10,11]]
def l30r13:List AOper :=
  [oQ 75 (.bin .eql Z34 (.const (.int .i64 4))) [],oQ 74 (.mv Z75) [0]]
def l30r14:List AOper :=
  [oQ 76 (.mv Z7) [],oQ 77 (.mv Z5) [],oQ 78 (.mv Z0) [],oQ 79 (.call 31 [Z78,.const (.int .i64 100)]) [2],oQ 80 (.bslice 1 [.int .i64 0] [(0,Z77),(1,Z79)] 2) [1,3],oQ 81 (.build [.int .i64 0,.slice none 0 0] [(0,1,Z76),(1,1,Z80)]) [0,4],nQ (.store 2 Z4 Z81) [5,3,0,1,2,3,4,5]]
def l30r15:List AOper :=
  [oQ 83 (.bin .eql Z34 (.const (.int .i64 5))) [],oQ 82 (.mv Z83) [0]]
def l30r16:List AOper :=
  [oQ 84 (.mv Z7) [],oQ 85 (.mv Z5) [],oQ 86 (.mv Z0) [],oQ 87 (.fld 1 Z3) [],oQ 88 (.load false 1 Z87) [3],oQ 89 (.len Z88) [4],oQ 90 (.bin .add Z89 (.const (.int .i64 1))) [5],oQ 91 (.call 31 [Z86,Z90]) [2,6],oQ 92 (.bslice 1 [.int .i64 0] [(0,Z85),(1,Z91)] 2) [1,7],oQ 93 (.build [.int .i64 0,.slice none 0 0] [(0,1,Z84),(1,1,Z92)]) [0,8],nQ (.store 2 Z4 Z93) [9,7,0,1,2,3,4,5,6,7,8,9]]
def l30r17:List AOper :=
  [oQ 35 (.mv Z7) [],oQ 36 (.mv Z5) [],oQ 37 (.bslice 1 [.int .i64 0] [(0,Z36)] 1) [1],oQ 38 (.build [.int .i64 0,.slice none 0 0] [(0,1,Z35),(1,1,Z37)]) [0,2],nQ (.store 2 Z4 Z38) [3,0,1,2,3]]
def l30:AFn :=
  (AFn.mk 94 2 (.seq (.reg l30r0) (.seq (.reg l30r1) (.seq (.seq (.reg l30r2) (.seq (.reg l30r3) (.cond (.tmp 23) (.reg l30r4) .skip))) (.seq (.reg l30r5) (.seq (.reg l30r6) (.block 0 (.seq (.reg l30r7) (.cond (.tmp 39) (.seq (.reg l30r8) .ret) (.seq (.reg l30r9) (.cond (.tmp 47) (.seq (.reg l30r10) .ret) (.seq (.reg l30r11) (.cond (.tmp 60) (.seq (.reg l30r12) .ret) (.seq (.reg l30r13) (.cond (.tmp 74) (.seq (.reg l30r14) .ret) (.seq (.reg l30r15) (.cond (.tmp 82) (.seq (.reg l30r16) .ret) (.seq (.reg l30r17) .ret))))))))))))))))) [.cell 4 true 2])
theorem l30_eq:lowFn Tryd.prog 30=some l30:=by kernel_rfl
def l31r0:List AOper :=
  [oQ 4 (.mv (.const (.int .i64 0))) []]
def l31r1:List AOper :=
  [oQ 7 (.mv Z0) [],oQ 8 (.mv Z0) [],oQ 9 (.nilck Z8) [1],oQ 10 (.fld 1 Z9) [2],oQ 11 (.load false 1 Z10) [3],oQ 12 (.bin .add Z11 (.const (.int .i64 1))) [4],oQ 13 (.nilck Z7) [0,0,1,2,3,4,5],oQ 14 (.fld 1 Z13) [6,0,1,2,3,4,5],nQ (.store 1 Z14 Z12) [7,5,0,1,2,3,4,5]]
def l31r2:List AOper :=
  [oQ 15 (.mv Z1) [],oQ 16 (.bin .lss Z15 (.const (.int .i64 1))) [0],oQ 17 (.mv Z16) [1],gQ 18 (.mv Z0) (some (17,false)) [2],gQ 19 (.nilck Z18) (some (17,false)) [3,2],gQ 20 (.fld 0 Z19) (some (17,false)) [4,2],gQ 21 (.load false 1 Z20) (some (17,false)) [5,2],gQ 22 (.len Z21) (some (17,false)) [6,2],gQ 23 (.bin .eql Z22 (.const (.int .i64 0))) (some (17,false)) [7,2],oQ 24 (.pick Z17 (.const (.bool true)) Z23) [2,8]]
def l31r3:List AOper :=
  [oQ 4 (.mv (.const (.int .i64 0))) []]
def l31r4:List AOper :=
  [oQ 25 (.mv Z0) [],oQ 26 (.nilck Z25) [0],oQ 27 (.fld 1 Z26) [1],oQ 28 (.load false 1 Z27) [2],oQ 29 (.bin .sub Z28 (.const (.int .i64 1))) [3],oQ 5 (.mv Z29) [4,0,1,2,3,4]]
def l31r5:List AOper :=
  [oQ 30 (.mv Z5) [],oQ 31 (.mv Z0) [],oQ 32 (.nilck Z31) [1],oQ 33 (.fld 0 Z32) [2],oQ 34 (.load false 1 Z33) [3],oQ 35 (.len Z34) [4],oQ 36 (.bin .lss Z30 Z35) [0,5]]
def l31r6:List AOper :=
  [oQ 37 (.mv Z0) [],oQ 38 (.nilck Z37) [0],oQ 39 (.fld 0 Z38) [1],oQ 40 (.load false 1 Z39) [2],oQ 41 (.mv Z5) [],oQ 42 (.idxA 1 Z40 Z41) [3,4],oQ 43 (.load false 1 Z42) [5],oQ 44 (.conv .i64 Z43) [6],oQ 45 (.mv Z1) [],oQ 46 (.bin .rem Z44 Z45) [7,8],oQ 4 (.mv Z46) [9,0,1,2,3,4,5,6,7,8,9]]
def l31r7a:List AOper :=
  [oQ 47 (.mv Z0) [],oQ 48 (.nilck Z47) [0],oQ 49 (.fld 0 Z48) [1],oQ 50 (.load false 1 Z49) [2],oQ 51 (.mv Z5) [],oQ 52 (.mv Z0) [],oQ 53 (.nilck Z52) [5],oQ 54 (.fld 0 Z53) [6],oQ 55 (.load false 1 Z54) [7],oQ 56 (.len Z55) [8],oQ 57 (.bin .rem Z51 Z56) [4,9],oQ 58 (.idxA 1 Z50 Z57) [3,10],oQ 59 (.load false 1 Z58) [11],oQ 60 (.conv .i64 Z59) [12],oQ 61 (.bin .mul Z60 (.const (.int .i64 131))) [13],oQ 62 (.mv Z0) [],oQ 63 (.nilck Z62) [15],oQ 64 (.fld 0 Z63) [16],oQ 65 (.load false 1 Z64) [17],oQ 66 (.mv Z5) [],oQ 67 (.bin .mul Z66 (.const (.int .i64 7))) [19],oQ 68 (.bin .add Z67 (.const (.int .i64 3))) [20],oQ 69 (.mv Z0) [],oQ 70 (.nilck Z69) [22],oQ 71 (.fld 0 Z70) [23],oQ 72 (.load false 1 Z71) [24],oQ 73 (.len Z72) [25],oQ 74 (.bin .rem Z68 Z73) [21,26],oQ 75 (.idxA 1 Z65 Z74) [18,27],oQ 76 (.load false 1 Z75) [28],oQ 77 (.conv .i64 Z76) [29],oQ 78 (.bin .mul Z77 (.const (.int .i64 1117))) [30],oQ 79 (.bin .add Z61 Z78) [14,31],oQ 80 (.mv Z5) [],oQ 81 (.bin .mul Z80 (.const (.int .i64 29))) [33],oQ 82 (.bin .add Z79 Z81) [32,34],oQ 83 (.mv Z5) [],oQ 84 (.mv Z0) [],oQ 85 (.nilck Z84) [37],oQ 86 (.fld 0 Z85) [38],oQ 87 (.load false 1 Z86) [39],oQ 88 (.len Z87) [40],oQ 89 (.bin .quo Z83 Z88) [36,41],oQ 90 (.bin .mul Z89 (.const (.int .i64 53))) [42]]
def l31r7b:List AOper :=
  [oQ 91 (.bin .add Z82 Z90) [35,43],oQ 6 (.mv Z91) [44,0,1,2,3,4,5,6,7,8,9,10,11,12,13,14,15,16,17,18,19,20,21,22,23,24,25,26,27,28,29,30,31,32,33,34,35,36,37,38,39,40,41,42,43,44]]
def l31r7:List AOper:=l31r7a ++ l31r7b
def l31r8:List AOper :=
  [oQ 92 (.mv Z6) [],oQ 93 (.mv Z6) [],oQ 94 (.bin .quo Z93 (.const (.int .i64 64))) [1],oQ 95 (.bin .xor Z92 Z94) [0,2],oQ 6 (.mv Z95) [3,0,1,2,3]]
def l31r9:List AOper :=
  [oQ 96 (.mv Z6) [],oQ 97 (.mv Z1) [],oQ 98 (.bin .rem Z96 Z97) [0,1],oQ 4 (.mv Z98) [2,0,1,2]]
def l31:AFn :=
  (AFn.mk 99 2 (.seq (.reg l31r0) (.seq (.reg l31r1) (.seq (.seq (.reg l31r2) (.cond (.tmp 24) (.seq (.reg l31r3) .ret) .skip)) (.seq (.reg l31r4) (.seq (.seq (.reg l31r5) (.cond (.tmp 36) (.seq (.reg l31r6) .ret) .skip)) (.seq (.draw l31r7) (.seq (.reg l31r8) (.seq (.reg l31r9) .ret)))))))) [.tmp 4])
theorem l31_eq:lowFn Tryd.prog 31=some l31:=by kernel_rfl
def l32r0:List AOper :=
  [oQ 4 (.mv (.const (.int .i64 0))) []]
def l32r1:List AOper :=
  [oQ 5 (.mv Z1) [],oQ 6 (.mv Z0) [],oQ 7 (.mv Z1) [],oQ 8 (.len Z7) [2],oQ 9 (.call 31 [Z6,Z8]) [1,3],oQ 10 (.idxA 1 Z5 Z9) [0,4],oQ 11 (.load false 1 Z10) [5],oQ 4 (.mv Z11) [6,4,0,1,2,3,4,5,6]]
def l32:AFn :=
  (AFn.mk 12 2 (.seq (.reg l32r0) (.seq (.reg l32r1) .ret)) [.tmp 4])
theorem l32_eq:lowFn Tryd.prog 32=some l32:=by kernel_rfl
def l33r0:List AOper :=
  [oQ 2 (.alloc [.slice none 0 0,.slice none 0 0]) []]
def l33r1:List AOper :=
  [oQ 3 (.mv Z0) [],oQ 4 (.call 25 [Z3,.const (.int .i64 0),.const (.int .i64 60)]) [0],oQ 5 (.un .not Z4) [1]]
def l33r2:List AOper :=
  [oQ 6 (.build [.slice none 0 0,.slice none 0 0] []) [],nQ (.store 2 Z2 Z6) [0,0]]
def l33r3:List AOper :=
  [oQ 7 (.mv Z0) [],oQ 8 (.mkslice 1 [.int .i64 0] Z7 Z7) [0,0],oQ 9 (.build [.slice none 0 0,.slice none 0 0] [(0,1,Z8)]) [1],nQ (.store 2 Z2 Z9) [2,0,1,2]]
def l33:AFn :=
  (AFn.mk 10 1 (.seq (.reg l33r0) (.seq (.seq (.reg l33r1) (.cond (.tmp 5) (.seq (.reg l33r2) .ret) .skip)) (.seq (.reg l33r3) .ret))) [.cell 2 true 2])
theorem l33_eq:lowFn Tryd.prog 33=some l33:=by kernel_rfl
def l34r0:List AOper :=
  [oQ 2 (.box Z0) [],oQ 3 (.box Z1) [],oQ 4 (.alloc [.slice none 0 0,.slice none 0 0]) [],oQ 5 (.mv (.const (.string (ByteArray.mk (Array.mk []))))) []]
def l34r1:List AOper :=
  [oQ 9 (.load true 2 Z2) [],oQ 10 (.load true 2 Z3) [],oQ 11 (.call 37 [Z9,Z10]) [0,1],oQ 8 (.mv Z11) [2],oQ 12 (.extract Z8 0) [3],oQ 13 (.extract Z8 1) [3],oQ 6 (.alloc [.slice none 0 0,.slice none 0 0]) [],nQ (.store 2 Z6 Z12) [6,4,2,0,1,2,3,4,6],oQ 7 (.mv Z13) [5,7,0,1,2,3,4,5,6,7]]
def l34r2:List AOper :=
  [oQ 15 (.mv Z7) [],oQ 16 (.un .not Z15) [0],oQ 14 (.mv Z16) [1]]
def l34r3:List AOper :=
  [oQ 17 (.load true 2 Z2) [],nQ (.store 2 Z4 Z17) [0,0],oQ 5 (.mv (.const (.string (ByteArray.mk (Array.mk [(110:UInt8),(111:UInt8)]))))) [1,0,1]]
def l34r4:List AOper :=
  [oQ 19 (.fld 0 Z3) [],oQ 20 (.load false 1 Z19) [0],oQ 21 (.bin .eql Z20 (.const (.int .i64 6))) [1],oQ 18 (.mv Z21) [2]]
def l34r5a:List AOper :=
  [oQ 22 (.load true 2 Z2) [],oQ 23 (.fld 0 Z2) [],oQ 24 (.load false 1 Z23) [1],oQ 25 (.fld 1 Z2) [],oQ 26 (.load false 1 Z25) [3],oQ 27 (.fld 1 Z3) [],oQ 28 (.load false 1 Z27) [5],oQ 29 (.idxA 1 Z28 (.const (.int .i64 0))) [6],oQ 30 (.load false 1 Z29) [7],oQ 31 (.idxA 5 Z26 Z30) [4,8],oQ 32 (.fld 1 Z31) [9],oQ 33 (.load true 3 Z32) [10],oQ 34 (.call 38 [Z24,Z33]) [2,11],oQ 35 (.call 16 [Z34]) [12,12],oQ 36 (.bin .add (.const (.string (ByteArray.mk (Array.mk [(104:UInt8),(97:UInt8),(115:UInt8)])))) Z35) [13],nQ (.store 2 Z4 Z22) [0,13,0]]
def l34r5b:List AOper :=
  [oQ 5 (.mv Z36) [14,15,0,1,2,3,4,5,6,7,8,9,10,11,12,13,14,15]]
def l34r5:List AOper:=l34r5a ++ l34r5b
def l34r6:List AOper :=
  [oQ 38 (.fld 0 Z3) [],oQ 39 (.load false 1 Z38) [0],oQ 40 (.bin .eql Z39 (.const (.int .i64 1))) [1],oQ 41 (.mv Z40) [2],gQ 42 (.fld 0 Z3) (some (41,false)) [3],gQ 43 (.load false 1 Z42) (some (41,false)) [4,3],gQ 44 (.bin .eql Z43 (.const (.int .i64 2))) (some (41,false)) [5,3],oQ 45 (.pick Z41 (.const (.bool true)) Z44) [3,6],oQ 46 (.mv Z45) [7,3],gQ 47 (.fld 0 Z3) (some (46,false)) [8],gQ 48 (.load false 1 Z47) (some (46,false)) [9,8],gQ 49 (.bin .eql Z48 (.const (.int .i64 3))) (some (46,false)) [10,8],oQ 50 (.pick Z46 (.const (.bool true)) Z49) [8,11],oQ 37 (.mv Z50) [12,8]]
def l34r7a:List AOper :=
  [oQ 51 (.load true 2 Z6) [],oQ 52 (.fld 1 Z6) [],oQ 53 (.load false 1 Z52) [1],oQ 54 (.len Z53) [2],oQ 55 (.bin .sub Z54 (.const (.int .i64 1))) [3],oQ 56 (.call 28 [Z55]) [4],oQ 57 (.bin .add (.const (.string (ByteArray.mk (Array.mk [(97:UInt8),(116:UInt8),(32:UInt8)])))) Z56) [5],nQ (.store 2 Z4 Z51) [0,5,0]]
def l34r7b:List AOper :=
  [oQ 5 (.mv Z57) [6,7,0,1,2,3,4,5,6,7]]
def l34r7:List AOper:=l34r7a ++ l34r7b
def l34r8:List AOper :=
  [oQ 58 (.load true 2 Z6) [],nQ (.store 2 Z4 Z58) [0,0],oQ 5 (.mv (.const (.string (ByteArray.mk (Array.mk [(111:UInt8),(107:UInt8)]))))) [1,0,1]]
def l34:AFn :=
  (AFn.mk 59 2 (.seq (.reg l34r0) (.seq (.reg l34r1) (.seq (.block 0 (.seq (.reg l34r2) (.cond (.tmp 14) (.seq (.reg l34r3) .ret) (.seq (.reg l34r4) (.cond (.tmp 18) (.seq (.draw l34r5) .ret) (.seq (.reg l34r6) (.cond (.tmp 37) (.seq (.draw l34r7) .ret) .skip))))))) (.seq (.reg l34r8) .ret)))) [.cell 4 true 2,.tmp 5])
theorem l34_eq:lowFn Tryd.prog 34=some l34:=by kernel_rfl
def l36r0:List AOper :=
  [oQ 1 (.box Z0) [],oQ 2 (.mv (.const (.slice none 0 0))) []]
def l36r1:List AOper :=
  [oQ 5 (.load true 2 Z1) [],oQ 6 (.call 40 [Z5]) [0],oQ 7 (.un .not Z6) [1]]
def l36r2:List AOper :=
  [oQ 2 (.mv (.const (.slice none 0 0))) []]
def l36r3:List AOper :=
  [oQ 8 (.bslice 1 [.int .i64 0] [] 0) [],oQ 3 (.mv Z8) [0,0]]
def l36r4:List AOper :=
  [oQ 4 (.mv (.const (.int .i64 0))) []]
def l36r5:List AOper :=
  [oQ 9 (.mv Z4) [],oQ 10 (.fld 1 Z1) [],oQ 11 (.load false 1 Z10) [1],oQ 12 (.len Z11) [2],oQ 13 (.bin .lss Z9 Z12) [0,3]]
def l36r6:List AOper :=
  [oQ 16 (.fld 1 Z1) [],oQ 17 (.load false 1 Z16) [0],oQ 18 (.mv Z4) [],oQ 19 (.idxA 5 Z17 Z18) [1,2],oQ 20 (.fld 4 Z19) [3],oQ 21 (.load false 1 Z20) [4]]
def l36r7:List AOper :=
  [oQ 22 (.mv Z3) [],oQ 23 (.mv Z4) [],oQ 24 (.bslice 1 [.int .i64 0] [(0,Z23)] 1) [1],oQ 25 (.append 1 Z22 Z24) [0,2],oQ 3 (.mv Z25) [3,3,0,1,2,3]]
def l36r8:List AOper :=
  [oQ 14 (.mv Z4) [],oQ 15 (.bin .add Z14 (.const (.int .i64 1))) [0],oQ 4 (.mv Z15) [1,0,1]]
def l36r9:List AOper :=
  [oQ 26 (.mv Z3) [],oQ 2 (.mv Z26) [0,0]]
def l36:AFn :=
  (AFn.mk 27 1 (.seq (.reg l36r0) (.seq (.seq (.reg l36r1) (.cond (.tmp 7) (.seq (.reg l36r2) .ret) .skip)) (.seq (.reg l36r3) (.seq (.seq (.reg l36r4) (.block 0 (.loop (.seq (.seq (.reg l36r5) (.cond (.tmp 13) .skip (.exit 0))) (.seq (.block 1 (.seq (.reg l36r6) (.cond (.tmp 21) (.reg l36r7) .skip))) (.reg l36r8)))))) (.seq (.reg l36r9) .ret))))) [.tmp 2])
theorem l36_eq:lowFn Tryd.prog 36=some l36:=by kernel_rfl
def l37r0:List AOper :=
  [oQ 2 (.box Z0) [],oQ 3 (.box Z1) [],oQ 4 (.alloc [.slice none 0 0,.slice none 0 0]) [],oQ 5 (.mv (.const (.bool false))) []]
def l37r1:List AOper :=
  [oQ 7 (.fld 1 Z3) [],oQ 8 (.load false 1 Z7) [0],oQ 6 (.mv Z8) [1,0,1]]
def l37r2:List AOper :=
  [oQ 9 (.fld 0 Z3) [],oQ 10 (.load false 1 Z9) [0]]
def l37r3:List AOper :=
  [oQ 12 (.bin .eql Z10 (.const (.int .i64 0))) [],oQ 11 (.mv Z12) [0]]
def l37r4a:List AOper :=
  [oQ 13 (.load true 2 Z2) [],oQ 14 (.mv Z6) [],oQ 15 (.idxA 1 Z14 (.const (.int .i64 0))) [1],oQ 16 (.load false 1 Z15) [2],oQ 17 (.call 41 [Z13,Z16]) [0,3],oQ 18 (.extract Z17 0) [4],oQ 19 (.extract Z17 1) [4]]
def l37r4b:List AOper :=
  [nQ (.store 2 Z4 Z18) [5,4,0,1,2,3,4,5,6],oQ 5 (.mv Z19) [6,7,0,1,2,3,4,5,6,7]]
def l37r4:List AOper:=l37r4a ++ l37r4b
def l37r5:List AOper :=
  [oQ 21 (.bin .eql Z10 (.const (.int .i64 1))) [],oQ 20 (.mv Z21) [0]]
def l37r6a:List AOper :=
  [oQ 22 (.load true 2 Z2) [],oQ 23 (.mv Z6) [],oQ 24 (.idxA 1 Z23 (.const (.int .i64 0))) [1],oQ 25 (.load false 1 Z24) [2],oQ 26 (.mv Z6) [],oQ 27 (.idxA 1 Z26 (.const (.int .i64 1))) [4],oQ 28 (.load false 1 Z27) [5],oQ 29 (.bslice 1 [.int .i64 0] [(0,Z28)] 1) [6],oQ 30 (.mv Z6) [],oQ 31 (.idxA 1 Z30 (.const (.int .i64 2))) [8],oQ 32 (.load false 1 Z31) [9],oQ 33 (.bslice 1 [.int .i64 0] [(0,Z32)] 1) [10],oQ 34 (.build [.int .i64 0,.slice none 0 0,.slice none 0 0] [(0,1,Z25),(1,1,Z29),(2,1,Z33)]) [3,7,11],oQ 35 (.call 42 [Z22,Z34]) [0,12],oQ 36 (.extract Z35 0) [13],oQ 37 (.extract Z35 1) [13]]
def l37r6b:List AOper :=
  [nQ (.store 2 Z4 Z36) [14,13,0,1,2,3,4,5,6,7,8,9,10,11,12,13,14,15],oQ 5 (.mv Z37) [15,16,0,1,2,3,4,5,6,7,8,9,10,11,12,13,14,15,16]]
def l37r6:List AOper:=l37r6a ++ l37r6b
def l37r7:List AOper :=
  [oQ 39 (.bin .eql Z10 (.const (.int .i64 2))) [],oQ 38 (.mv Z39) [0]]
def l37r8a:List AOper :=
  [oQ 40 (.load true 2 Z2) [],oQ 41 (.mv Z6) [],oQ 42 (.idxA 1 Z41 (.const (.int .i64 0))) [1],oQ 43 (.load false 1 Z42) [2],oQ 44 (.mv Z6) [],oQ 45 (.idxA 1 Z44 (.const (.int .i64 1))) [4],oQ 46 (.load false 1 Z45) [5],oQ 47 (.mv Z6) [],oQ 48 (.idxA 1 Z47 (.const (.int .i64 2))) [7],oQ 49 (.load false 1 Z48) [8],oQ 50 (.mv Z6) [],oQ 51 (.idxA 1 Z50 (.const (.int .i64 3))) [10],oQ 52 (.load false 1 Z51) [11],oQ 53 (.build [.int .i64 0,.int .i64 0,.int .i64 0,.bool false,.bool false] [(0,1,Z46),(1,1,Z49),(2,1,Z52),(3,1,.const (.bool true)),(4,1,.const (.bool true))]) [6,9,12],oQ 54 (.call 43 [Z40,Z43,.const (.int .i64 0),Z53]) [0,3,13],oQ 55 (.extract Z54 0) [14],oQ 56 (.extract Z54 1) [14]]
def l37r8b:List AOper :=
  [nQ (.store 2 Z4 Z55) [15,14,0,1,2,3,4,5,6,7,8,9,10,11,12,13,14,15,16],oQ 5 (.mv Z56) [16,17,0,1,2,3,4,5,6,7,8,9,10,11,12,13,14,15,16,17]]
def l37r8:List AOper:=l37r8a ++ l37r8b
def l37r9:List AOper :=
  [oQ 58 (.bin .eql Z10 (.const (.int .i64 3))) [],oQ 57 (.mv Z58) [0]]
def l37r10a:List AOper :=
  [oQ 59 (.load true 2 Z2) [],oQ 60 (.mv Z6) [],oQ 61 (.idxA 1 Z60 (.const (.int .i64 0))) [1],oQ 62 (.load false 1 Z61) [2],oQ 63 (.build [.int .i64 0,.int .i64 0,.int .i64 0,.bool false,.bool false] [(2,1,.const (.int .i64 (-1)))]) [],oQ 64 (.call 43 [Z59,Z62,.const (.int .i64 0),Z63]) [0,3,4],oQ 65 (.extract Z64 0) [5],oQ 66 (.extract Z64 1) [5]]
def l37r10b:List AOper :=
  [nQ (.store 2 Z4 Z65) [6,5,0,1,2,3,4,5,6,7],oQ 5 (.mv Z66) [7,8,0,1,2,3,4,5,6,7,8]]
def l37r10:List AOper:=l37r10a ++ l37r10b
def l37r11:List AOper :=
  [oQ 68 (.bin .eql Z10 (.const (.int .i64 4))) [],oQ 67 (.mv Z68) [0]]
def l37r12a:List AOper :=
  [oQ 69 (.load true 2 Z2) [],oQ 70 (.mv Z6) [],oQ 71 (.idxA 1 Z70 (.const (.int .i64 0))) [1],oQ 72 (.load false 1 Z71) [2],oQ 73 (.mv Z6) [],oQ 74 (.idxA 1 Z73 (.const (.int .i64 1))) [4],oQ 75 (.load false 1 Z74) [5],oQ 76 (.call 44 [Z69,Z72,Z75]) [0,3,6],oQ 77 (.extract Z76 0) [7],oQ 78 (.extract Z76 1) [7]]
def l37r12b:List AOper :=
  [nQ (.store 2 Z4 Z77) [8,7,0,1,2,3,4,5,6,7,8,9],oQ 5 (.mv Z78) [9,10,0,1,2,3,4,5,6,7,8,9,10]]
def l37r12:List AOper:=l37r12a ++ l37r12b
def l37r13:List AOper :=
  [oQ 80 (.bin .eql Z10 (.const (.int .i64 5))) [],oQ 79 (.mv Z80) [0]]
def l37r14a:List AOper :=
  [oQ 81 (.load true 2 Z2) [],oQ 82 (.mv Z6) [],oQ 83 (.idxA 1 Z82 (.const (.int .i64 0))) [1],oQ 84 (.load false 1 Z83) [2],oQ 85 (.mv Z6) [],oQ 86 (.idxA 1 Z85 (.const (.int .i64 1))) [4],oQ 87 (.load false 1 Z86) [5],oQ 88 (.call 45 [Z81,Z84,Z87]) [0,3,6],oQ 89 (.extract Z88 0) [7],oQ 90 (.extract Z88 1) [7]]
def l37r14b:List AOper :=
  [nQ (.store 2 Z4 Z89) [8,7,0,1,2,3,4,5,6,7,8,9],oQ 5 (.mv Z90) [9,10,0,1,2,3,4,5,6,7,8,9,10]]
def l37r14:List AOper:=l37r14a ++ l37r14b
def l37r15:List AOper :=
  [oQ 92 (.bin .eql Z10 (.const (.int .i64 7))) [],oQ 91 (.mv Z92) [0]]
def l37r16a:List AOper :=
  [oQ 93 (.load true 2 Z2) [],oQ 94 (.mv Z6) [],oQ 95 (.idxA 1 Z94 (.const (.int .i64 0))) [1],oQ 96 (.load false 1 Z95) [2],oQ 97 (.call 46 [Z93,Z96]) [0,3],oQ 98 (.extract Z97 0) [4],oQ 99 (.extract Z97 1) [4]]
def l37r16b:List AOper :=
  [nQ (.store 2 Z4 Z98) [5,4,0,1,2,3,4,5,6],oQ 5 (.mv Z99) [6,7,0,1,2,3,4,5,6,7]]
def l37r16:List AOper:=l37r16a ++ l37r16b
def l37r17a:List AOper :=
  [oQ 100 (.load true 2 Z2) [],oQ 101 (.load true 2 Z2) [],oQ 102 (.mv Z6) [],oQ 103 (.idxA 1 Z102 (.const (.int .i64 0))) [2],oQ 104 (.load false 1 Z103) [3],oQ 105 (.call 47 [Z101,Z104]) [1,4]]
def l37r17b:List AOper :=
  [nQ (.store 2 Z4 Z100) [0,5,0],oQ 5 (.mv Z105) [5,6,0,1,2,3,4,5,6]]
def l37r17:List AOper:=l37r17a ++ l37r17b
def l37:AFn :=
  (AFn.mk 106 2 (.seq (.reg l37r0) (.seq (.reg l37r1) (.seq (.seq (.reg l37r2) (.block 0 (.seq (.reg l37r3) (.cond (.tmp 11) (.seq (.draw l37r4) .ret) (.seq (.reg l37r5) (.cond (.tmp 20) (.seq (.draw l37r6) .ret) (.seq (.reg l37r7) (.cond (.tmp 38) (.seq (.draw l37r8) .ret) (.seq (.reg l37r9) (.cond (.tmp 57) (.seq (.draw l37r10) .ret) (.seq (.reg l37r11) (.cond (.tmp 67) (.seq (.draw l37r12) .ret) (.seq (.reg l37r13) (.cond (.tmp 79) (.seq (.draw l37r14) .ret) (.seq (.reg l37r15) (.cond (.tmp 91) (.seq (.draw l37r16) .ret) .skip)))))))))))))))) (.seq (.draw l37r17) .ret)))) [.cell 4 true 2,.tmp 5])
theorem l37_eq:lowFn Tryd.prog 37=some l37:=by kernel_rfl
def l38r0:List AOper :=
  [oQ 3 (.box Z1) [],oQ 4 (.mv (.const (.slice none 0 0))) []]
def l38r1:List AOper :=
  [oQ 8 (.bslice 1 [.int .i64 0] [] 0) [],oQ 5 (.mv Z8) [0,0]]
def l38r2:List AOper :=
  [oQ 9 (.load true 3 Z3) [],oQ 10 (.call 48 [Z9]) [0],oQ 6 (.mv Z10) [1,1,0,1]]
def l38r3:List AOper :=
  [oQ 7 (.mv (.const (.int .i64 0))) []]
def l38r4:List AOper :=
  [oQ 11 (.mv Z7) [],oQ 12 (.mv Z6) [],oQ 13 (.len Z12) [1],oQ 14 (.bin .lss Z11 Z13) [0,2]]
def l38r5:List AOper :=
  [oQ 17 (.mv Z5) [],oQ 18 (.mv Z0) [],oQ 19 (.mv Z6) [],oQ 20 (.mv Z7) [],oQ 21 (.idxA 1 Z19 Z20) [2,3],oQ 22 (.load false 1 Z21) [4],oQ 23 (.idxA 1 Z18 Z22) [1,5],oQ 24 (.load false 1 Z23) [6],oQ 25 (.bslice 1 [.int .i64 0] [(0,Z24)] 1) [7],oQ 26 (.append 1 Z17 Z25) [0,8],oQ 5 (.mv Z26) [9,9,0,1,2,3,4,5,6,7,8,9]]
def l38r6:List AOper :=
  [oQ 15 (.mv Z7) [],oQ 16 (.bin .add Z15 (.const (.int .i64 1))) [0],oQ 7 (.mv Z16) [1,0,1]]
def l38r7:List AOper :=
  [oQ 27 (.mv Z5) [],oQ 4 (.mv Z27) [0,0]]
def l38:AFn :=
  (AFn.mk 28 2 (.seq (.reg l38r0) (.seq (.reg l38r1) (.seq (.reg l38r2) (.seq (.seq (.reg l38r3) (.block 0 (.loop (.seq (.seq (.reg l38r4) (.cond (.tmp 14) .skip (.exit 0))) (.seq (.block 1 (.reg l38r5)) (.reg l38r6)))))) (.seq (.reg l38r7) .ret))))) [.tmp 4])
theorem l38_eq:lowFn Tryd.prog 38=some l38:=by kernel_rfl
def l40r0:List AOper :=
  [oQ 1 (.box Z0) [],oQ 2 (.mv (.const (.bool false))) []]
def l40r1:List AOper :=
  [oQ 3 (.mv (.const (.int .i64 0))) []]
def l40r2:List AOper :=
  [oQ 4 (.mv Z3) [],oQ 5 (.fld 1 Z1) [],oQ 6 (.load false 1 Z5) [1],oQ 7 (.len Z6) [2],oQ 8 (.bin .lss Z4 Z7) [0,3]]
def l40r3:List AOper :=
  [oQ 11 (.load true 2 Z1) [],oQ 12 (.mv Z3) [],oQ 13 (.call 53 [Z11,Z12]) [0,1],oQ 14 (.un .not Z13) [2]]
def l40r4:List AOper :=
  [oQ 2 (.mv (.const (.bool false))) []]
def l40r5:List AOper :=
  [oQ 9 (.mv Z3) [],oQ 10 (.bin .add Z9 (.const (.int .i64 1))) [0],oQ 3 (.mv Z10) [1,0,1]]
def l40r6:List AOper :=
  [oQ 15 (.fld 0 Z1) [],oQ 16 (.load false 1 Z15) [0],oQ 17 (.call 54 [Z16]) [1],oQ 18 (.mv Z17) [2,2],gQ 19 (.fld 1 Z1) (some (18,true)) [3],gQ 20 (.load false 1 Z19) (some (18,true)) [4,3],gQ 21 (.len Z20) (some (18,true)) [5,3],gQ 22 (.bin .leq Z21 (.const (.int .i64 8))) (some (18,true)) [6,3],oQ 23 (.pick Z18 Z22 (.const (.bool false))) [3,7],oQ 2 (.mv Z23) [8,3,0,1,2,3,4,5,6,7,8]]
def l40:AFn :=
  (AFn.mk 24 1 (.seq (.reg l40r0) (.seq (.seq (.reg l40r1) (.block 0 (.loop (.seq (.seq (.reg l40r2) (.cond (.tmp 8) .skip (.exit 0))) (.seq (.block 1 (.seq (.reg l40r3) (.cond (.tmp 14) (.seq (.reg l40r4) .ret) .skip))) (.reg l40r5)))))) (.seq (.reg l40r6) .ret))) [.tmp 2])
theorem l40_eq:lowFn Tryd.prog 40=some l40:=by kernel_rfl
def l41r0:List AOper :=
  [oQ 2 (.box Z0) [],oQ 4 (.alloc [.slice none 0 0,.slice none 0 0]) [],oQ 5 (.mv (.const (.bool false))) []]
def l41r1:List AOper :=
  [oQ 8 (.load true 2 Z2) [],oQ 9 (.call 40 [Z8]) [0],oQ 10 (.un .not Z9) [1],oQ 11 (.mv Z10) [2,1],gQ 12 (.mv Z1) (some (11,false)) [3],gQ 13 (.call 25 [Z12,.const (.int .i64 0),.const (.int .i64 60)]) (some (11,false)) [4,3,3],gQ 14 (.un .not Z13) (some (11,false)) [5,3],oQ 15 (.pick Z11 (.const (.bool true)) Z14) [3,6],oQ 16 (.mv Z15) [7,5],gQ 17 (.load true 2 Z2) (some (16,false)) [8],gQ 18 (.call 36 [Z17]) (some (16,false)) [9,8,8],gQ 19 (.len Z18) (some (16,false)) [10,8],gQ 20 (.bin .gtr Z19 (.const (.int .i64 0))) (some (16,false)) [11,8],oQ 21 (.pick Z16 (.const (.bool true)) Z20) [8,12]]
def l41r2:List AOper :=
  [oQ 22 (.build [.slice none 0 0,.slice none 0 0] []) [],nQ (.store 2 Z4 Z22) [0,0],oQ 5 (.mv (.const (.bool false))) [1,0,1]]
def l41r3:List AOper :=
  [oQ 23 (.load true 2 Z2) [],oQ 24 (.call 55 [Z23]) [0],oQ 6 (.alloc [.slice none 0 0,.slice none 0 0]) [],nQ (.store 2 Z6 Z24) [2,1,1,0,1,2]]
def l41r4:List AOper :=
  [oQ 25 (.mv Z1) [],oQ 26 (.mkslice 1 [.int .i64 0] Z25 Z25) [0,0],oQ 27 (.fld 0 Z6) [0,1],nQ (.store 1 Z27 Z26) [2,1,0,1]]
def l41r5:List AOper :=
  [oQ 7 (.mv (.const (.int .i64 0))) []]
def l41r6:List AOper :=
  [oQ 28 (.mv Z7) [],oQ 29 (.mv Z1) [],oQ 30 (.bin .lss Z28 Z29) [0,1],oQ 31 (.mv Z30) [2],gQ 32 (.mv Z7) (some (31,true)) [3],gQ 33 (.fld 0 Z2) (some (31,true)) [3],gQ 34 (.load false 1 Z33) (some (31,true)) [5,3],gQ 35 (.len Z34) (some (31,true)) [6,3],gQ 36 (.bin .lss Z32 Z35) (some (31,true)) [4,7,3],oQ 37 (.pick Z31 Z36 (.const (.bool false))) [3,8]]
def l41r7a:List AOper :=
  [oQ 40 (.fld 0 Z6) [],oQ 41 (.load false 1 Z40) [0],oQ 42 (.mv Z7) [],oQ 43 (.fld 0 Z2) [],oQ 44 (.load false 1 Z43) [3],oQ 45 (.mv Z7) [],oQ 46 (.idxA 1 Z44 Z45) [4,5],oQ 47 (.load false 1 Z46) [6]]
def l41r7b:List AOper :=
  [oQ 48 (.idxA 1 Z41 Z42) [1,2,0,1,2,3,4,5,6,7],nQ (.store 1 Z48 Z47) [8,7,0,1,2,3,4,5,6,7]]
def l41r7:List AOper:=l41r7a ++ l41r7b
def l41r8:List AOper :=
  [oQ 38 (.mv Z7) [],oQ 39 (.bin .add Z38 (.const (.int .i64 1))) [0],oQ 7 (.mv Z39) [1,0,1]]
def l41r9:List AOper :=
  [oQ 49 (.load true 2 Z6) [],nQ (.store 2 Z4 Z49) [0,0],oQ 5 (.mv (.const (.bool true))) [1,0,1]]
def l41:AFn :=
  (AFn.mk 50 2 (.seq (.reg l41r0) (.seq (.seq (.reg l41r1) (.cond (.tmp 21) (.seq (.reg l41r2) .ret) .skip)) (.seq (.reg l41r3) (.seq (.reg l41r4) (.seq (.seq (.reg l41r5) (.block 0 (.loop (.seq (.seq (.reg l41r6) (.cond (.tmp 37) .skip (.exit 0))) (.seq (.block 1 (.draw l41r7)) (.reg l41r8)))))) (.seq (.reg l41r9) .ret)))))) [.cell 4 true 2,.tmp 5])
theorem l41_eq:lowFn Tryd.prog 41=some l41:=by kernel_rfl
def l42r0:List AOper :=
  [oQ 2 (.box Z0) [],oQ 3 (.box Z1) [],oQ 4 (.alloc [.slice none 0 0,.slice none 0 0]) [],oQ 5 (.mv (.const (.bool false))) []]
def l42r1:List AOper :=
  [oQ 6 (.load true 2 Z2) [],oQ 7 (.call 40 [Z6]) [0],oQ 8 (.un .not Z7) [1],oQ 9 (.mv Z8) [2,1],gQ 10 (.load true 3 Z3) (some (9,false)) [3],gQ 11 (.call 56 [Z10]) (some (9,false)) [4,3,3],gQ 12 (.un .not Z11) (some (9,false)) [5,3],oQ 13 (.pick Z9 (.const (.bool true)) Z12) [3,6],oQ 14 (.mv Z13) [7,5],gQ 15 (.load true 3 Z3) (some (14,false)) [8],gQ 16 (.fld 0 Z2) (some (14,false)) [8],gQ 17 (.load false 1 Z16) (some (14,false)) [10,8],gQ 18 (.len Z17) (some (14,false)) [11,8],gQ 19 (.call 57 [Z15,Z18]) (some (14,false)) [9,12,8,8],gQ 20 (.un .not Z19) (some (14,false)) [13,8],oQ 21 (.pick Z14 (.const (.bool true)) Z20) [8,14],oQ 22 (.mv Z21) [15,13],gQ 23 (.fld 1 Z2) (some (22,false)) [16],gQ 24 (.load false 1 Z23) (some (22,false)) [17,16],gQ 25 (.len Z24) (some (22,false)) [18,16],gQ 26 (.bin .eql Z25 (.const (.int .i64 8))) (some (22,false)) [19,16],oQ 27 (.pick Z22 (.const (.bool true)) Z26) [16,20]]
def l42r2:List AOper :=
  [oQ 28 (.build [.slice none 0 0,.slice none 0 0] []) [],nQ (.store 2 Z4 Z28) [0,0],oQ 5 (.mv (.const (.bool false))) [1,0,1]]
def l42r3:List AOper :=
  [oQ 29 (.load true 2 Z2) [],oQ 30 (.load true 3 Z3) [],oQ 31 (.call 58 [Z29,.const (.int .i64 (-1)),Z30]) [0,1],nQ (.store 2 Z4 Z31) [2,2,0,1,2],oQ 5 (.mv (.const (.bool true))) [3,0,1,2,3]]
def l42:AFn :=
  (AFn.mk 32 2 (.seq (.reg l42r0) (.seq (.seq (.reg l42r1) (.cond (.tmp 27) (.seq (.reg l42r2) .ret) .skip)) (.seq (.reg l42r3) .ret))) [.cell 4 true 2,.tmp 5])
theorem l42_eq:lowFn Tryd.prog 42=some l42:=by kernel_rfl
def l43r0:List AOper :=
  [oQ 4 (.box Z0) [],oQ 7 (.box Z3) [],oQ 8 (.alloc [.slice none 0 0,.slice none 0 0]) [],oQ 9 (.mv (.const (.bool false))) []]
def l43r1:List AOper :=
  [oQ 12 (.load true 2 Z4) [],oQ 13 (.call 40 [Z12]) [0],oQ 14 (.un .not Z13) [1],oQ 15 (.mv Z14) [2,1],gQ 16 (.load true 2 Z4) (some (15,false)) [3],gQ 17 (.mv Z1) (some (15,false)) [3],gQ 18 (.call 47 [Z16,Z17]) (some (15,false)) [4,5,3,3],gQ 19 (.un .not Z18) (some (15,false)) [6,3],oQ 20 (.pick Z15 (.const (.bool true)) Z19) [3,7],oQ 21 (.mv Z20) [8,6],gQ 22 (.fld 1 Z4) (some (21,false)) [9],gQ 23 (.load false 1 Z22) (some (21,false)) [10,9],gQ 24 (.len Z23) (some (21,false)) [11,9],gQ 25 (.bin .eql Z24 (.const (.int .i64 8))) (some (21,false)) [12,9],oQ 26 (.pick Z21 (.const (.bool true)) Z25) [9,13]]
def l43r2:List AOper :=
  [oQ 27 (.build [.slice none 0 0,.slice none 0 0] []) [],nQ (.store 2 Z8 Z27) [0,0],oQ 9 (.mv (.const (.bool false))) [1,0,1]]
def l43r3a:List AOper :=
  [oQ 29 (.fld 1 Z4) [],oQ 30 (.load false 1 Z29) [0],oQ 31 (.mv Z1) [],oQ 32 (.idxA 5 Z30 Z31) [1,2],oQ 33 (.fld 1 Z32) [3],oQ 34 (.load true 3 Z33) [4],oQ 35 (.mv Z2) [],oQ 36 (.load true 5 Z7) [],oQ 37 (.call 59 [Z34,Z35,Z36]) [5,6,7],oQ 28 (.mv Z37) [8],oQ 38 (.extract Z28 0) [9],oQ 39 (.extract Z28 1) [9],oQ 10 (.alloc [.int .i64 0,.slice none 0 0,.slice none 0 0]) [],nQ (.store 3 Z10 Z38) [12,10,8,0,1,2,3,4,5,6,7,8,9,10,12]]
def l43r3b:List AOper :=
  [oQ 11 (.mv Z39) [11,13,0,1,2,3,4,5,6,7,8,9,10,11,12,13]]
def l43r3:List AOper:=l43r3a ++ l43r3b
def l43r4:List AOper :=
  [oQ 40 (.mv Z11) [],oQ 41 (.un .not Z40) [0]]
def l43r5:List AOper :=
  [oQ 42 (.build [.slice none 0 0,.slice none 0 0] []) [],nQ (.store 2 Z8 Z42) [0,0],oQ 9 (.mv (.const (.bool false))) [1,0,1]]
def l43r6:List AOper :=
  [oQ 43 (.load true 2 Z4) [],oQ 44 (.mv Z1) [],oQ 45 (.load true 3 Z10) [],oQ 46 (.call 58 [Z43,Z44,Z45]) [0,1,2],nQ (.store 2 Z8 Z46) [3,3,0,1,2,3],oQ 9 (.mv (.const (.bool true))) [4,0,1,2,3,4]]
def l43:AFn :=
  (AFn.mk 47 4 (.seq (.reg l43r0) (.seq (.seq (.reg l43r1) (.cond (.tmp 26) (.seq (.reg l43r2) .ret) .skip)) (.seq (.draw l43r3) (.seq (.seq (.reg l43r4) (.cond (.tmp 41) (.seq (.reg l43r5) .ret) .skip)) (.seq (.reg l43r6) .ret))))) [.cell 8 true 2,.tmp 9])
theorem l43_eq:lowFn Tryd.prog 43=some l43:=by kernel_rfl
def l44r0:List AOper :=
  [oQ 3 (.box Z0) [],oQ 6 (.alloc [.slice none 0 0,.slice none 0 0]) [],oQ 7 (.mv (.const (.bool false))) []]
def l44r1:List AOper :=
  [oQ 9 (.load true 2 Z3) [],oQ 10 (.call 40 [Z9]) [0],oQ 11 (.un .not Z10) [1],oQ 12 (.mv Z11) [2,1],gQ 13 (.load true 2 Z3) (some (12,false)) [3],gQ 14 (.mv Z1) (some (12,false)) [3],gQ 15 (.call 47 [Z13,Z14]) (some (12,false)) [4,5,3,3],gQ 16 (.un .not Z15) (some (12,false)) [6,3],oQ 17 (.pick Z12 (.const (.bool true)) Z16) [3,7],oQ 18 (.mv Z17) [8,6],gQ 19 (.mv Z2) (some (18,false)) [9],gQ 20 (.call 25 [Z19,.const (.int .i64 0),.const (.int .i64 255)]) (some (18,false)) [10,9,9],gQ 21 (.un .not Z20) (some (18,false)) [11,9],oQ 22 (.pick Z18 (.const (.bool true)) Z21) [9,12]]
def l44r2:List AOper :=
  [oQ 23 (.build [.slice none 0 0,.slice none 0 0] []) [],nQ (.store 2 Z6 Z23) [0,0],oQ 7 (.mv (.const (.bool false))) [1,0,1]]
def l44r3:List AOper :=
  [oQ 24 (.load true 2 Z3) [],oQ 25 (.call 55 [Z24]) [0],oQ 8 (.alloc [.slice none 0 0,.slice none 0 0]) [],nQ (.store 2 Z8 Z25) [2,1,1,0,1,2]]
def l44r4a:List AOper :=
  [oQ 27 (.fld 0 Z3) [],oQ 28 (.load false 1 Z27) [0],oQ 29 (.fld 1 Z3) [],oQ 30 (.load false 1 Z29) [2],oQ 31 (.mv Z1) [],oQ 32 (.idxA 5 Z30 Z31) [3,4],oQ 33 (.fld 1 Z32) [5],oQ 34 (.load true 3 Z33) [6],oQ 35 (.mv Z2) [],oQ 36 (.call 60 [Z28,Z34,Z35]) [1,7,8],oQ 26 (.mv Z36) [9],oQ 37 (.extract Z26 0) [10],oQ 38 (.extract Z26 1) [10],oQ 39 (.fld 0 Z8) [0,1,2,3,4,5,6,7,8,9,10,11],nQ (.store 1 Z39 Z37) [13,11,9,0,1,2,3,4,5,6,7,8,9,10,11]]
def l44r4b:List AOper :=
  []
def l44r4:List AOper:=l44r4a ++ l44r4b
def l44r5:List AOper :=
  [oQ 40 (.load true 2 Z8) [],nQ (.store 2 Z6 Z40) [0,0],oQ 7 (.mv (.const (.bool true))) [1,0,1]]
def l44:AFn :=
  (AFn.mk 41 3 (.seq (.reg l44r0) (.seq (.seq (.reg l44r1) (.cond (.tmp 22) (.seq (.reg l44r2) .ret) .skip)) (.seq (.reg l44r3) (.seq (.draw l44r4) (.seq (.reg l44r5) .ret))))) [.cell 6 true 2,.tmp 7])
theorem l44_eq:lowFn Tryd.prog 44=some l44:=by kernel_rfl
def l45r0:List AOper :=
  [oQ 3 (.box Z0) [],oQ 6 (.alloc [.slice none 0 0,.slice none 0 0]) [],oQ 7 (.mv (.const (.bool false))) []]
def l45r1:List AOper :=
  [oQ 11 (.load true 2 Z3) [],oQ 12 (.call 40 [Z11]) [0],oQ 13 (.un .not Z12) [1],oQ 14 (.mv Z13) [2,1],gQ 15 (.load true 2 Z3) (some (14,false)) [3],gQ 16 (.mv Z1) (some (14,false)) [3],gQ 17 (.call 47 [Z15,Z16]) (some (14,false)) [4,5,3,3],gQ 18 (.un .not Z17) (some (14,false)) [6,3],oQ 19 (.pick Z14 (.const (.bool true)) Z18) [3,7],oQ 20 (.mv Z19) [8,6],gQ 21 (.load true 2 Z3) (some (20,false)) [9],gQ 22 (.mv Z2) (some (20,false)) [9],gQ 23 (.call 47 [Z21,Z22]) (some (20,false)) [10,11,9,9],gQ 24 (.un .not Z23) (some (20,false)) [12,9],oQ 25 (.pick Z20 (.const (.bool true)) Z24) [9,13]]
def l45r2:List AOper :=
  [oQ 26 (.build [.slice none 0 0,.slice none 0 0] []) [],nQ (.store 2 Z6 Z26) [0,0],oQ 7 (.mv (.const (.bool false))) [1,0,1]]
def l45r3a:List AOper :=
  [oQ 28 (.fld 0 Z3) [],oQ 29 (.load false 1 Z28) [0],oQ 30 (.fld 1 Z3) [],oQ 31 (.load false 1 Z30) [2],oQ 32 (.mv Z1) [],oQ 33 (.idxA 5 Z31 Z32) [3,4],oQ 34 (.fld 1 Z33) [5],oQ 35 (.load true 3 Z34) [6],oQ 36 (.fld 1 Z3) [],oQ 37 (.load false 1 Z36) [8],oQ 38 (.mv Z2) [],oQ 39 (.idxA 5 Z37 Z38) [9,10],oQ 40 (.fld 1 Z39) [11],oQ 41 (.load true 3 Z40) [12],oQ 42 (.call 61 [Z29,Z35,Z41]) [1,7,13],oQ 27 (.mv Z42) [14],oQ 43 (.extract Z27 0) [15],oQ 44 (.extract Z27 1) [15],oQ 8 (.mv Z43) [16,14,0,1,2,3,4,5,6,7,8,9,10,11,12,13,14,15,16]]
def l45r3b:List AOper :=
  [oQ 9 (.mv Z44) [17,18,0,1,2,3,4,5,6,7,8,9,10,11,12,13,14,15,16,17,18]]
def l45r3:List AOper:=l45r3a ++ l45r3b
def l45r4:List AOper :=
  [oQ 45 (.mv Z9) [],oQ 46 (.un .not Z45) [0]]
def l45r5:List AOper :=
  [oQ 47 (.build [.slice none 0 0,.slice none 0 0] []) [],nQ (.store 2 Z6 Z47) [0,0],oQ 7 (.mv (.const (.bool false))) [1,0,1]]
def l45r6:List AOper :=
  [oQ 48 (.load true 2 Z3) [],oQ 49 (.call 55 [Z48]) [0],oQ 10 (.alloc [.slice none 0 0,.slice none 0 0]) [],nQ (.store 2 Z10 Z49) [2,1,1,0,1,2]]
def l45r7:List AOper :=
  [oQ 50 (.mv Z8) [],oQ 51 (.fld 0 Z10) [0],nQ (.store 1 Z51 Z50) [1,0,0]]
def l45r8:List AOper :=
  [oQ 52 (.load true 2 Z10) [],nQ (.store 2 Z6 Z52) [0,0],oQ 7 (.mv (.const (.bool true))) [1,0,1]]
def l45:AFn :=
  (AFn.mk 53 3 (.seq (.reg l45r0) (.seq (.seq (.reg l45r1) (.cond (.tmp 25) (.seq (.reg l45r2) .ret) .skip)) (.seq (.draw l45r3) (.seq (.seq (.reg l45r4) (.cond (.tmp 46) (.seq (.reg l45r5) .ret) .skip)) (.seq (.reg l45r6) (.seq (.reg l45r7) (.seq (.reg l45r8) .ret))))))) [.cell 6 true 2,.tmp 7])
theorem l45_eq:lowFn Tryd.prog 45=some l45:=by kernel_rfl
def l46r0:List AOper :=
  [oQ 2 (.box Z0) [],oQ 4 (.alloc [.slice none 0 0,.slice none 0 0]) [],oQ 5 (.mv (.const (.bool false))) []]
def l46r1:List AOper :=
  [oQ 7 (.load true 2 Z2) [],oQ 8 (.call 40 [Z7]) [0],oQ 9 (.un .not Z8) [1],oQ 10 (.mv Z9) [2,1],gQ 11 (.load true 2 Z2) (some (10,false)) [3],gQ 12 (.mv Z1) (some (10,false)) [3],gQ 13 (.call 47 [Z11,Z12]) (some (10,false)) [4,5,3,3],gQ 14 (.un .not Z13) (some (10,false)) [6,3],oQ 15 (.pick Z10 (.const (.bool true)) Z14) [3,7],oQ 16 (.mv Z15) [8,6],gQ 17 (.load true 2 Z2) (some (16,false)) [9],gQ 18 (.mv Z1) (some (16,false)) [9],gQ 19 (.call 62 [Z17,Z18]) (some (16,false)) [10,11,9,9],gQ 20 (.len Z19) (some (16,false)) [12,9],gQ 21 (.bin .gtr Z20 (.const (.int .i64 0))) (some (16,false)) [13,9],oQ 22 (.pick Z16 (.const (.bool true)) Z21) [9,14]]
def l46r2:List AOper :=
  [oQ 23 (.build [.slice none 0 0,.slice none 0 0] []) [],nQ (.store 2 Z4 Z23) [0,0],oQ 5 (.mv (.const (.bool false))) [1,0,1]]
def l46r3:List AOper :=
  [oQ 24 (.load true 2 Z2) [],oQ 25 (.call 55 [Z24]) [0],oQ 6 (.alloc [.slice none 0 0,.slice none 0 0]) [],nQ (.store 2 Z6 Z25) [2,1,1,0,1,2]]
def l46r4:List AOper :=
  [oQ 26 (.fld 1 Z6) [],oQ 27 (.load false 1 Z26) [0],oQ 28 (.mv Z1) [],oQ 29 (.idxA 5 Z27 Z28) [1,2,0,1,2],oQ 30 (.fld 4 Z29) [3,0,1,2],nQ (.store 1 Z30 (.const (.bool false))) [4,0,1,2]]
def l46r5:List AOper :=
  [oQ 31 (.load true 2 Z6) [],nQ (.store 2 Z4 Z31) [0,0],oQ 5 (.mv (.const (.bool true))) [1,0,1]]
def l46:AFn :=
  (AFn.mk 32 2 (.seq (.reg l46r0) (.seq (.seq (.reg l46r1) (.cond (.tmp 22) (.seq (.reg l46r2) .ret) .skip)) (.seq (.reg l46r3) (.seq (.reg l46r4) (.seq (.reg l46r5) .ret))))) [.cell 4 true 2,.tmp 5])
theorem l46_eq:lowFn Tryd.prog 46=some l46:=by kernel_rfl
def l47r0:List AOper :=
  [oQ 2 (.box Z0) [],oQ 4 (.mv (.const (.bool false))) []]
def l47r1:List AOper :=
  [oQ 5 (.mv Z1) [],oQ 6 (.fld 1 Z2) [],oQ 7 (.load false 1 Z6) [1],oQ 8 (.len Z7) [2],oQ 9 (.bin .sub Z8 (.const (.int .i64 1))) [3],oQ 10 (.call 25 [Z5,.const (.int .i64 0),Z9]) [0,4],oQ 11 (.mv Z10) [5,5],gQ 12 (.fld 1 Z2) (some (11,true)) [6],gQ 13 (.load false 1 Z12) (some (11,true)) [7,6],gQ 14 (.mv Z1) (some (11,true)) [6],gQ 15 (.idxA 5 Z13 Z14) (some (11,true)) [8,9,6],gQ 16 (.fld 4 Z15) (some (11,true)) [10,6],gQ 17 (.load false 1 Z16) (some (11,true)) [11,6],oQ 18 (.pick Z11 Z17 (.const (.bool false))) [6,12],oQ 4 (.mv Z18) [13,6,0,1,2,3,4,5,6,7,8,9,10,11,12,13]]
def l47:AFn :=
  (AFn.mk 19 2 (.seq (.reg l47r0) (.seq (.reg l47r1) .ret)) [.tmp 4])
theorem l47_eq:lowFn Tryd.prog 47=some l47:=by kernel_rfl
def l48r0:List AOper :=
  [oQ 1 (.box Z0) [],oQ 2 (.mv (.const (.slice none 0 0))) []]
def l48r1:List AOper :=
  [oQ 5 (.bslice 1 [.int .i64 0] [] 0) [],oQ 3 (.mv Z5) [0,0]]
def l48r2:List AOper :=
  [oQ 4 (.mv (.const (.int .i64 0))) []]
def l48r3:List AOper :=
  [oQ 6 (.mv Z4) [],oQ 7 (.fld 1 Z1) [],oQ 8 (.load false 1 Z7) [1],oQ 9 (.call 63 [Z8]) [2],oQ 10 (.bin .lss Z6 Z9) [0,3]]
def l48r4a:List AOper :=
  [oQ 13 (.mv Z3) [],oQ 14 (.load true 3 Z1) [],oQ 15 (.fld 1 Z1) [],oQ 16 (.load false 1 Z15) [2],oQ 17 (.mv Z4) [],oQ 18 (.call 65 [Z16,Z17]) [3,4],oQ 19 (.call 64 [Z14,Z18]) [1,5,5],oQ 20 (.bslice 1 [.int .i64 0] [(0,Z19)] 1) [6]]
def l48r4b:List AOper :=
  [oQ 21 (.append 1 Z13 Z20) [0,7,6],oQ 3 (.mv Z21) [8,8,0,1,2,3,4,5,6,7,8]]
def l48r4:List AOper:=l48r4a ++ l48r4b
def l48r5:List AOper :=
  [oQ 11 (.mv Z4) [],oQ 12 (.bin .add Z11 (.const (.int .i64 1))) [0],oQ 4 (.mv Z12) [1,0,1]]
def l48r6:List AOper :=
  [oQ 22 (.mv Z3) [],oQ 2 (.mv Z22) [0,0]]
def l48:AFn :=
  (AFn.mk 23 1 (.seq (.reg l48r0) (.seq (.reg l48r1) (.seq (.seq (.reg l48r2) (.block 0 (.loop (.seq (.seq (.reg l48r3) (.cond (.tmp 10) .skip (.exit 0))) (.seq (.block 1 (.draw l48r4)) (.reg l48r5)))))) (.seq (.reg l48r6) .ret)))) [.tmp 2])
theorem l48_eq:lowFn Tryd.prog 48=some l48:=by kernel_rfl
def l53r0:List AOper :=
  [oQ 2 (.box Z0) [],oQ 4 (.mv (.const (.bool false))) []]
def l53r1:List AOper :=
  [oQ 6 (.fld 1 Z2) [],oQ 7 (.load false 1 Z6) [0],oQ 8 (.mv Z1) [],oQ 9 (.idxA 5 Z7 Z8) [1,2],oQ 10 (.load true 5 Z9) [3],oQ 5 (.alloc [.int .i64 0,.int .i64 0,.slice none 0 0,.slice none 0 0,.bool false]) [],nQ (.store 5 Z5 Z10) [5,4,0,1,2,3,4,5]]
def l53r2:List AOper :=
  [oQ 11 (.fld 0 Z5) [],oQ 12 (.load false 1 Z11) [0],oQ 13 (.mv Z1) [],oQ 14 (.bin .sub Z13 (.const (.int .i64 1))) [2],oQ 15 (.call 25 [Z12,.const (.int .i64 (-1)),Z14]) [1,3],oQ 16 (.un .not Z15) [4],oQ 17 (.mv Z16) [5,4],gQ 18 (.fld 1 Z5) (some (17,false)) [6],gQ 19 (.load true 3 Z18) (some (17,false)) [7,6],gQ 20 (.call 56 [Z19]) (some (17,false)) [8,6,6],gQ 21 (.un .not Z20) (some (17,false)) [9,6],oQ 22 (.pick Z17 (.const (.bool true)) Z21) [6,10]]
def l53r3:List AOper :=
  [oQ 4 (.mv (.const (.bool false))) []]
def l53r4:List AOper :=
  [oQ 23 (.fld 4 Z5) [],oQ 24 (.load false 1 Z23) [0],oQ 25 (.un .not Z24) [1],oQ 26 (.mv Z25) [2],gQ 27 (.fld 1 Z5) (some (26,false)) [3],gQ 28 (.load true 3 Z27) (some (26,false)) [4,3],gQ 29 (.fld 0 Z2) (some (26,false)) [3],gQ 30 (.load false 1 Z29) (some (26,false)) [6,3],gQ 31 (.len Z30) (some (26,false)) [7,3],gQ 32 (.call 57 [Z28,Z31]) (some (26,false)) [5,8,3,3],gQ 33 (.mv Z32) (some (26,false)) [9,9,3],gQ 34 (.fld 0 Z5) (some (33,true)) [10],gQ 35 (.load false 1 Z34) (some (33,true)) [11,10],gQ 36 (.bin .lss Z35 (.const (.int .i64 0))) (some (33,true)) [12,10],gQ 37 (.mv Z36) (some (33,true)) [13,10,10],gQ 38 (.fld 1 Z2) (some (37,false)) [14],gQ 39 (.load false 1 Z38) (some (37,false)) [15,14],gQ 40 (.fld 0 Z5) (some (37,false)) [14],gQ 41 (.load false 1 Z40) (some (37,false)) [17,14],gQ 42 (.idxA 5 Z39 Z41) (some (37,false)) [16,18,14],gQ 43 (.fld 4 Z42) (some (37,false)) [19,14],gQ 44 (.load false 1 Z43) (some (37,false)) [20,14],gQ 45 (.pick Z37 (.const (.bool true)) Z44) (some (33,true)) [14,21,10],gQ 46 (.pick Z33 Z45 (.const (.bool false))) (some (26,false)) [10,22,3],oQ 47 (.pick Z26 (.const (.bool true)) Z46) [3,23],oQ 4 (.mv Z47) [24,14,0,1,2,3,4,5,6,7,8,9,10,11,12,13,14,15,16,17,18,19,20,21,22,23,24]]
def l53:AFn :=
  (AFn.mk 48 2 (.seq (.reg l53r0) (.seq (.reg l53r1) (.seq (.seq (.reg l53r2) (.cond (.tmp 22) (.seq (.reg l53r3) .ret) .skip)) (.seq (.reg l53r4) .ret)))) [.tmp 4])
theorem l53_eq:lowFn Tryd.prog 53=some l53:=by kernel_rfl
def l54r0:List AOper :=
  [oQ 2 (.mv (.const (.bool false))) []]
def l54r1:List AOper :=
  [oQ 3 (.mv Z0) [],oQ 4 (.len Z3) [0],oQ 5 (.bin .leq Z4 (.const (.int .i64 60))) [1],oQ 6 (.mv Z5) [2],gQ 7 (.mv Z0) (some (6,true)) [3],gQ 8 (.call 27 [Z7,.const (.int .i64 0),.const (.int .i64 255)]) (some (6,true)) [4,3,3],oQ 9 (.pick Z6 Z8 (.const (.bool false))) [3,5],oQ 2 (.mv Z9) [6,5,0,1,2,3,4,5,6]]
def l54:AFn :=
  (AFn.mk 10 1 (.seq (.reg l54r0) (.seq (.reg l54r1) .ret)) [.tmp 2])
theorem l54_eq:lowFn Tryd.prog 54=some l54:=by kernel_rfl
def l55r0:List AOper :=
  [oQ 1 (.box Z0) [],oQ 2 (.alloc [.slice none 0 0,.slice none 0 0]) []]
def l55r1:List AOper :=
  [oQ 6 (.fld 0 Z1) [],oQ 7 (.load false 1 Z6) [0],oQ 8 (.call 71 [Z7]) [1],oQ 9 (.build [.slice none 0 0,.slice none 0 0] [(0,1,Z8)]) [2],oQ 3 (.alloc [.slice none 0 0,.slice none 0 0]) [],nQ (.store 2 Z3 Z9) [4,3,2,0,1,2,3,4]]
def l55r2:List AOper :=
  [oQ 4 (.mv (.const (.int .i64 0))) []]
def l55r3:List AOper :=
  [oQ 10 (.mv Z4) [],oQ 11 (.fld 1 Z1) [],oQ 12 (.load false 1 Z11) [1],oQ 13 (.len Z12) [2],oQ 14 (.bin .lss Z10 Z13) [0,3]]
def l55r4:List AOper :=
  [oQ 17 (.fld 1 Z1) [],oQ 18 (.load false 1 Z17) [0],oQ 19 (.mv Z4) [],oQ 20 (.idxA 5 Z18 Z19) [1,2],oQ 21 (.load true 5 Z20) [3],oQ 5 (.alloc [.int .i64 0,.int .i64 0,.slice none 0 0,.slice none 0 0,.bool false]) [],nQ (.store 5 Z5 Z21) [5,4,0,1,2,3,4,5]]
def l55r5:List AOper :=
  [oQ 22 (.fld 1 Z5) [],oQ 23 (.load true 3 Z22) [0],oQ 24 (.call 72 [Z23]) [1],oQ 25 (.fld 1 Z5) [0,1,2],nQ (.store 3 Z25 Z24) [3,2,2,0,1,2]]
def l55r6:List AOper :=
  [oQ 26 (.fld 1 Z3) [],oQ 27 (.load false 1 Z26) [0],oQ 28 (.load true 5 Z5) [],oQ 29 (.bslice 5 [.int .i64 0,.int .i64 0,.slice none 0 0,.slice none 0 0,.bool false] [(0,Z28)] 1) [2],oQ 30 (.append 5 Z27 Z29) [1,3],oQ 31 (.fld 1 Z3) [0,1,2,3,4],nQ (.store 1 Z31 Z30) [5,4,4,0,1,2,3,4]]
def l55r7:List AOper :=
  [oQ 15 (.mv Z4) [],oQ 16 (.bin .add Z15 (.const (.int .i64 1))) [0],oQ 4 (.mv Z16) [1,0,1]]
def l55r8:List AOper :=
  [oQ 32 (.load true 2 Z3) [],nQ (.store 2 Z2 Z32) [0,0]]
def l55:AFn :=
  (AFn.mk 33 1 (.seq (.reg l55r0) (.seq (.reg l55r1) (.seq (.seq (.reg l55r2) (.block 0 (.loop (.seq (.seq (.reg l55r3) (.cond (.tmp 14) .skip (.exit 0))) (.seq (.block 1 (.seq (.reg l55r4) (.seq (.reg l55r5) (.reg l55r6)))) (.reg l55r7)))))) (.seq (.reg l55r8) .ret)))) [.cell 2 true 2])
theorem l55_eq:lowFn Tryd.prog 55=some l55:=by kernel_rfl
def l56r0:List AOper :=
  [oQ 1 (.box Z0) [],oQ 2 (.mv (.const (.bool false))) []]
def l56r1:List AOper :=
  [oQ 3 (.fld 1 Z1) [],oQ 4 (.load false 1 Z3) [0],oQ 5 (.call 73 [Z4]) [1],oQ 6 (.mv Z5) [2,2],gQ 7 (.fld 2 Z1) (some (6,true)) [3],gQ 8 (.load false 1 Z7) (some (6,true)) [4,3],gQ 9 (.len Z8) (some (6,true)) [5,3],gQ 10 (.fld 1 Z1) (some (6,true)) [3],gQ 11 (.load false 1 Z10) (some (6,true)) [7,3],gQ 12 (.len Z11) (some (6,true)) [8,3],gQ 13 (.bin .eql Z9 Z12) (some (6,true)) [6,9,3],oQ 14 (.pick Z6 Z13 (.const (.bool false))) [3,10],oQ 15 (.mv Z14) [11,3],gQ 16 (.fld 2 Z1) (some (15,true)) [12],gQ 17 (.load false 1 Z16) (some (15,true)) [13,12],gQ 18 (.call 27 [Z17,.const (.int .i64 (-60)),.const (.int .i64 60)]) (some (15,true)) [14,12,12],oQ 19 (.pick Z15 Z18 (.const (.bool false))) [12,15],oQ 20 (.mv Z19) [16,15],gQ 21 (.fld 0 Z1) (some (20,true)) [17],gQ 22 (.load false 1 Z21) (some (20,true)) [18,17],gQ 23 (.call 25 [Z22,.const (.int .i64 0),.const (.int .i64 60)]) (some (20,true)) [19,17,17],oQ 24 (.pick Z20 Z23 (.const (.bool false))) [17,20],oQ 25 (.mv Z24) [21,20],gQ 26 (.fld 1 Z1) (some (25,true)) [22],gQ 27 (.load false 1 Z26) (some (25,true)) [23,22],gQ 28 (.call 63 [Z27]) (some (25,true)) [24,22,22],gQ 29 (.bin .eql Z28 (.const (.int .i64 0))) (some (25,true)) [25,22],gQ 30 (.mv Z29) (some (25,true)) [26,25,22],gQ 31 (.load true 3 Z1) (some (30,false)) [27],gQ 32 (.call 48 [Z31]) (some (30,false)) [28,27,27],gQ 33 (.call 27 [Z32,.const (.int .i64 0),.const (.int .i64 59)]) (some (30,false)) [29,29,27],gQ 34 (.pick Z30 (.const (.bool true)) Z33) (some (25,true)) [27,30,22],oQ 35 (.pick Z25 Z34 (.const (.bool false))) [22,31],oQ 2 (.mv Z35) [32,30,0,1,2,3,4,5,6,7,8,9,10,11,12,13,14,15,16,17,18,19,20,21,22,23,24,25,26,27,28,29,30,31,32]]
def l56:AFn :=
  (AFn.mk 36 1 (.seq (.reg l56r0) (.seq (.reg l56r1) .ret)) [.tmp 2])
theorem l56_eq:lowFn Tryd.prog 56=some l56:=by kernel_rfl
def l57r0:List AOper :=
  [oQ 2 (.box Z0) [],oQ 4 (.mv (.const (.bool false))) []]
def l57r1:List AOper :=
  [oQ 5 (.load true 3 Z2) [],oQ 6 (.call 48 [Z5]) [0],oQ 7 (.mv Z1) [],oQ 8 (.bin .sub Z7 (.const (.int .i64 1))) [2],oQ 9 (.call 27 [Z6,.const (.int .i64 0),Z8]) [1,3,1],oQ 4 (.mv Z9) [4,4,0,1,2,3,4]]
def l57:AFn :=
  (AFn.mk 10 2 (.seq (.reg l57r0) (.seq (.reg l57r1) .ret)) [.tmp 4])
theorem l57_eq:lowFn Tryd.prog 57=some l57:=by kernel_rfl
def l58r0:List AOper :=
  [oQ 3 (.box Z0) [],oQ 5 (.box Z2) [],oQ 6 (.alloc [.slice none 0 0,.slice none 0 0]) []]
def l58r1:List AOper :=
  [oQ 8 (.load true 2 Z3) [],oQ 9 (.call 55 [Z8]) [0],oQ 7 (.alloc [.slice none 0 0,.slice none 0 0]) [],nQ (.store 2 Z7 Z9) [2,1,1,0,1,2]]
def l58r2a:List AOper :=
  [oQ 10 (.fld 1 Z7) [],oQ 11 (.load false 1 Z10) [0],oQ 12 (.mv Z1) [],oQ 13 (.load true 3 Z5) [],oQ 14 (.call 72 [Z13]) [3],oQ 15 (.build [.int .i64 0,.int .i64 0,.slice none 0 0,.slice none 0 0,.bool false] [(0,1,Z12),(1,3,Z14),(4,1,.const (.bool true))]) [2,4],oQ 16 (.bslice 5 [.int .i64 0,.int .i64 0,.slice none 0 0,.slice none 0 0,.bool false] [(0,Z15)] 1) [5]]
def l58r2b:List AOper :=
  [oQ 17 (.append 5 Z11 Z16) [1,6,4],oQ 18 (.fld 1 Z7) [0,1,2,3,4,5,6,7],nQ (.store 1 Z18 Z17) [8,7,7,0,1,2,3,4,5,6,7]]
def l58r2:List AOper:=l58r2a ++ l58r2b
def l58r3:List AOper :=
  [oQ 19 (.load true 2 Z7) [],nQ (.store 2 Z6 Z19) [0,0]]
def l58:AFn :=
  (AFn.mk 20 3 (.seq (.reg l58r0) (.seq (.reg l58r1) (.seq (.draw l58r2) (.seq (.reg l58r3) .ret)))) [.cell 6 true 2])
theorem l58_eq:lowFn Tryd.prog 58=some l58:=by kernel_rfl
def l59r0:List AOper :=
  [oQ 3 (.box Z0) [],oQ 5 (.box Z2) [],oQ 6 (.alloc [.int .i64 0,.slice none 0 0,.slice none 0 0]) [],oQ 7 (.mv (.const (.bool false))) []]
def l59r1:List AOper :=
  [oQ 8 (.load true 3 Z3) [],oQ 9 (.call 56 [Z8]) [0],oQ 10 (.un .not Z9) [1],oQ 11 (.mv Z10) [2,1],gQ 12 (.load true 3 Z3) (some (11,false)) [3],gQ 13 (.mv Z1) (some (11,false)) [3],gQ 14 (.call 74 [Z12,Z13]) (some (11,false)) [4,5,3,3],gQ 15 (.un .not Z14) (some (11,false)) [6,3],oQ 16 (.pick Z11 (.const (.bool true)) Z15) [3,7],oQ 17 (.mv Z16) [8,6],gQ 18 (.load true 5 Z5) (some (17,false)) [9],gQ 19 (.call 75 [Z18]) (some (17,false)) [10,9,9],gQ 20 (.un .not Z19) (some (17,false)) [11,9],oQ 21 (.pick Z17 (.const (.bool true)) Z20) [9,12]]
def l59r2:List AOper :=
  [oQ 22 (.build [.int .i64 0,.slice none 0 0,.slice none 0 0] []) [],nQ (.store 3 Z6 Z22) [0,0],oQ 7 (.mv (.const (.bool false))) [1,0,1]]
def l59r3:List AOper :=
  [oQ 23 (.load true 3 Z3) [],oQ 24 (.mv Z1) [],oQ 25 (.load true 5 Z5) [],oQ 26 (.call 77 [Z23,Z24,Z25]) [0,1,2],oQ 27 (.call 76 [Z26]) [3,3],oQ 28 (.extract Z27 0) [4],oQ 29 (.extract Z27 1) [4],nQ (.store 3 Z6 Z28) [5,4,0,1,2,3,4,5,6],oQ 7 (.mv Z29) [6,7,0,1,2,3,4,5,6,7]]
def l59:AFn :=
  (AFn.mk 30 3 (.seq (.reg l59r0) (.seq (.seq (.reg l59r1) (.cond (.tmp 21) (.seq (.reg l59r2) .ret) .skip)) (.seq (.reg l59r3) .ret))) [.cell 6 true 3,.tmp 7])
theorem l59_eq:lowFn Tryd.prog 59=some l59:=by kernel_rfl
def l60r0:List AOper :=
  [oQ 4 (.box Z1) [],oQ 6 (.mv (.const (.slice none 0 0))) [],oQ 7 (.mv (.const (.bool false))) [1]]
def l60r1:List AOper :=
  [oQ 11 (.mv Z0) [],oQ 12 (.load true 3 Z4) [],oQ 13 (.call 78 [Z11,Z12]) [0,1],oQ 14 (.un .not Z13) [2],oQ 15 (.mv Z14) [3,2],gQ 16 (.mv Z2) (some (15,false)) [4],gQ 17 (.call 25 [Z16,.const (.int .i64 0),.const (.int .i64 255)]) (some (15,false)) [5,4,4],gQ 18 (.un .not Z17) (some (15,false)) [6,4],oQ 19 (.pick Z15 (.const (.bool true)) Z18) [4,7]]
def l60r2:List AOper :=
  [oQ 6 (.mv (.const (.slice none 0 0))) [],oQ 7 (.mv (.const (.bool false))) [0,0]]
def l60r3:List AOper :=
  [oQ 20 (.mv Z0) [],oQ 21 (.call 71 [Z20]) [0],oQ 8 (.mv Z21) [1,1,0,1]]
def l60r4:List AOper :=
  [oQ 22 (.load true 3 Z4) [],oQ 23 (.call 48 [Z22]) [0],oQ 9 (.mv Z23) [1,1,0,1]]
def l60r5:List AOper :=
  [oQ 10 (.mv (.const (.int .i64 0))) []]
def l60r6:List AOper :=
  [oQ 24 (.mv Z10) [],oQ 25 (.mv Z9) [],oQ 26 (.len Z25) [1],oQ 27 (.bin .lss Z24 Z26) [0,2]]
def l60r7:List AOper :=
  [oQ 30 (.mv Z8) [],oQ 31 (.mv Z9) [],oQ 32 (.mv Z10) [],oQ 33 (.idxA 1 Z31 Z32) [1,2],oQ 34 (.load false 1 Z33) [3],oQ 35 (.mv Z2) [],oQ 36 (.idxA 1 Z30 Z34) [0,4,0,1,2,3,4,5],nQ (.store 1 Z36 Z35) [6,5,0,1,2,3,4,5]]
def l60r8:List AOper :=
  [oQ 28 (.mv Z10) [],oQ 29 (.bin .add Z28 (.const (.int .i64 1))) [0],oQ 10 (.mv Z29) [1,0,1]]
def l60r9:List AOper :=
  [oQ 37 (.mv Z8) [],oQ 6 (.mv Z37) [0,0],oQ 7 (.mv (.const (.bool true))) [1,0,1]]
def l60:AFn :=
  (AFn.mk 38 3 (.seq (.reg l60r0) (.seq (.seq (.reg l60r1) (.cond (.tmp 19) (.seq (.reg l60r2) .ret) .skip)) (.seq (.reg l60r3) (.seq (.reg l60r4) (.seq (.seq (.reg l60r5) (.block 0 (.loop (.seq (.seq (.reg l60r6) (.cond (.tmp 27) .skip (.exit 0))) (.seq (.block 1 (.reg l60r7)) (.reg l60r8)))))) (.seq (.reg l60r9) .ret)))))) [.tmp 6,.tmp 7])
theorem l60_eq:lowFn Tryd.prog 60=some l60:=by kernel_rfl
def l61r0:List AOper :=
  [oQ 4 (.box Z1) [],oQ 5 (.box Z2) [],oQ 6 (.mv (.const (.slice none 0 0))) [],oQ 7 (.mv (.const (.bool false))) [2]]
def l61r1:List AOper :=
  [oQ 8 (.mv Z0) [],oQ 9 (.load true 3 Z4) [],oQ 10 (.load true 3 Z5) [],oQ 11 (.call 79 [Z8,Z9,Z10]) [0,1,2],oQ 12 (.un .not Z11) [3]]
def l61r2:List AOper :=
  [oQ 6 (.mv (.const (.slice none 0 0))) [],oQ 7 (.mv (.const (.bool false))) [0,0]]
def l61r3a:List AOper :=
  [oQ 13 (.mv Z0) [],oQ 14 (.load true 3 Z4) [],oQ 15 (.mv Z0) [],oQ 16 (.load true 3 Z5) [],oQ 17 (.call 38 [Z15,Z16]) [2,3]]
def l61r3b:List AOper :=
  [oQ 18 (.call 80 [Z13,Z14,Z17]) [0,1,4,4],oQ 6 (.mv Z18) [5,5,0,1,2,3,4,5],oQ 7 (.mv (.const (.bool true))) [6,0,1,2,3,4,5,6]]
def l61r3:List AOper:=l61r3a ++ l61r3b
def l61:AFn :=
  (AFn.mk 19 3 (.seq (.reg l61r0) (.seq (.seq (.reg l61r1) (.cond (.tmp 12) (.seq (.reg l61r2) .ret) .skip)) (.seq (.draw l61r3) .ret))) [.tmp 6,.tmp 7])
theorem l61_eq:lowFn Tryd.prog 61=some l61:=by kernel_rfl
def l62r0:List AOper :=
  [oQ 2 (.box Z0) [],oQ 4 (.mv (.const (.slice none 0 0))) []]
def l62r1:List AOper :=
  [oQ 7 (.bslice 1 [.int .i64 0] [] 0) [],oQ 5 (.mv Z7) [0,0]]
def l62r2:List AOper :=
  [oQ 6 (.mv (.const (.int .i64 0))) []]
def l62r3:List AOper :=
  [oQ 8 (.mv Z6) [],oQ 9 (.fld 1 Z2) [],oQ 10 (.load false 1 Z9) [1],oQ 11 (.len Z10) [2],oQ 12 (.bin .lss Z8 Z11) [0,3]]
def l62r4:List AOper :=
  [oQ 15 (.fld 1 Z2) [],oQ 16 (.load false 1 Z15) [0],oQ 17 (.mv Z6) [],oQ 18 (.idxA 5 Z16 Z17) [1,2],oQ 19 (.fld 4 Z18) [3],oQ 20 (.load false 1 Z19) [4],oQ 21 (.mv Z20) [5],gQ 22 (.fld 1 Z2) (some (21,true)) [6],gQ 23 (.load false 1 Z22) (some (21,true)) [7,6],gQ 24 (.mv Z6) (some (21,true)) [6],gQ 25 (.idxA 5 Z23 Z24) (some (21,true)) [8,9,6],gQ 26 (.fld 0 Z25) (some (21,true)) [10,6],gQ 27 (.load false 1 Z26) (some (21,true)) [11,6],gQ 28 (.mv Z1) (some (21,true)) [6],gQ 29 (.bin .eql Z27 Z28) (some (21,true)) [12,13,6],oQ 30 (.pick Z21 Z29 (.const (.bool false))) [6,14]]
def l62r5:List AOper :=
  [oQ 31 (.mv Z5) [],oQ 32 (.mv Z6) [],oQ 33 (.bslice 1 [.int .i64 0] [(0,Z32)] 1) [1],oQ 34 (.append 1 Z31 Z33) [0,2],oQ 5 (.mv Z34) [3,3,0,1,2,3]]
def l62r6:List AOper :=
  [oQ 13 (.mv Z6) [],oQ 14 (.bin .add Z13 (.const (.int .i64 1))) [0],oQ 6 (.mv Z14) [1,0,1]]
def l62r7:List AOper :=
  [oQ 35 (.mv Z5) [],oQ 4 (.mv Z35) [0,0]]
def l62:AFn :=
  (AFn.mk 36 2 (.seq (.reg l62r0) (.seq (.reg l62r1) (.seq (.seq (.reg l62r2) (.block 0 (.loop (.seq (.seq (.reg l62r3) (.cond (.tmp 12) .skip (.exit 0))) (.seq (.block 1 (.seq (.reg l62r4) (.cond (.tmp 30) (.reg l62r5) .skip))) (.reg l62r6)))))) (.seq (.reg l62r7) .ret)))) [.tmp 4])
theorem l62_eq:lowFn Tryd.prog 62=some l62:=by kernel_rfl
def l63r0:List AOper :=
  [oQ 2 (.mv (.const (.int .i64 0))) []]
def l63r1:List AOper :=
  [oQ 3 (.mv (.const (.int .i64 1))) []]
def l63r2:List AOper :=
  [oQ 4 (.mv (.const (.int .i64 0))) []]
def l63r3:List AOper :=
  [oQ 5 (.mv Z4) [],oQ 6 (.mv Z0) [],oQ 7 (.len Z6) [1],oQ 8 (.bin .lss Z5 Z7) [0,2]]
def l63r4:List AOper :=
  [oQ 11 (.mv Z3) [],oQ 12 (.mv Z0) [],oQ 13 (.mv Z4) [],oQ 14 (.idxA 1 Z12 Z13) [1,2],oQ 15 (.load false 1 Z14) [3],oQ 16 (.bin .mul Z11 Z15) [0,4],oQ 3 (.mv Z16) [5,0,1,2,3,4,5]]
def l63r5:List AOper :=
  [oQ 9 (.mv Z4) [],oQ 10 (.bin .add Z9 (.const (.int .i64 1))) [0],oQ 4 (.mv Z10) [1,0,1]]
def l63r6:List AOper :=
  [oQ 17 (.mv Z3) [],oQ 2 (.mv Z17) [0,0]]
def l63:AFn :=
  (AFn.mk 18 1 (.seq (.reg l63r0) (.seq (.reg l63r1) (.seq (.seq (.reg l63r2) (.block 0 (.loop (.seq (.seq (.reg l63r3) (.cond (.tmp 8) .skip (.exit 0))) (.seq (.block 1 (.reg l63r4)) (.reg l63r5)))))) (.seq (.reg l63r6) .ret)))) [.tmp 2])
theorem l63_eq:lowFn Tryd.prog 63=some l63:=by kernel_rfl
def l64r0:List AOper :=
  [oQ 2 (.box Z0) [],oQ 4 (.mv (.const (.int .i64 0))) []]
def l64r1:List AOper :=
  [oQ 7 (.fld 0 Z2) [],oQ 8 (.load false 1 Z7) [0],oQ 5 (.mv Z8) [1,0,1]]
def l64r2:List AOper :=
  [oQ 6 (.mv (.const (.int .i64 0))) []]
def l64r3:List AOper :=
  [oQ 9 (.mv Z6) [],oQ 10 (.mv Z1) [],oQ 11 (.len Z10) [1],oQ 12 (.bin .lss Z9 Z11) [0,2]]
def l64r4a:List AOper :=
  [oQ 15 (.mv Z5) [],oQ 16 (.mv Z1) [],oQ 17 (.mv Z6) [],oQ 18 (.idxA 1 Z16 Z17) [1,2],oQ 19 (.load false 1 Z18) [3],oQ 20 (.fld 2 Z2) [],oQ 21 (.load false 1 Z20) [5],oQ 22 (.mv Z6) [],oQ 23 (.idxA 1 Z21 Z22) [6,7],oQ 24 (.load false 1 Z23) [8],oQ 25 (.bin .mul Z19 Z24) [4,9]]
def l64r4b:List AOper :=
  [oQ 26 (.bin .add Z15 Z25) [0,10],oQ 5 (.mv Z26) [11,0,1,2,3,4,5,6,7,8,9,10,11]]
def l64r4:List AOper:=l64r4a ++ l64r4b
def l64r5:List AOper :=
  [oQ 13 (.mv Z6) [],oQ 14 (.bin .add Z13 (.const (.int .i64 1))) [0],oQ 6 (.mv Z14) [1,0,1]]
def l64r6:List AOper :=
  [oQ 27 (.mv Z5) [],oQ 4 (.mv Z27) [0,0]]
def l64:AFn :=
  (AFn.mk 28 2 (.seq (.reg l64r0) (.seq (.reg l64r1) (.seq (.seq (.reg l64r2) (.block 0 (.loop (.seq (.seq (.reg l64r3) (.cond (.tmp 12) .skip (.exit 0))) (.seq (.block 1 (.draw l64r4)) (.reg l64r5)))))) (.seq (.reg l64r6) .ret)))) [.tmp 4])
theorem l64_eq:lowFn Tryd.prog 64=some l64:=by kernel_rfl
def l65r0:List AOper :=
  [oQ 4 (.mv (.const (.slice none 0 0))) []]
def l65r1:List AOper :=
  [oQ 7 (.mv Z0) [],oQ 8 (.len Z7) [0],oQ 9 (.mkslice 1 [.int .i64 0] Z8 Z8) [1,1],oQ 5 (.mv Z9) [2,0,1,2]]
def l65r2:List AOper :=
  [oQ 10 (.mv Z0) [],oQ 11 (.len Z10) [0],oQ 12 (.bin .sub Z11 (.const (.int .i64 1))) [1],oQ 6 (.mv Z12) [2,0,1,2]]
def l65r3:List AOper :=
  [oQ 13 (.mv Z6) [],oQ 14 (.bin .geq Z13 (.const (.int .i64 0))) [0]]
def l65r4:List AOper :=
  [oQ 17 (.mv Z5) [],oQ 18 (.mv Z6) [],oQ 19 (.mv Z1) [],oQ 20 (.mv Z0) [],oQ 21 (.mv Z6) [],oQ 22 (.idxA 1 Z20 Z21) [3,4],oQ 23 (.load false 1 Z22) [5],oQ 24 (.bin .rem Z19 Z23) [2,6],oQ 25 (.idxA 1 Z17 Z18) [0,1,0,1,2,3,4,5,6,7],nQ (.store 1 Z25 Z24) [8,7,0,1,2,3,4,5,6,7]]
def l65r5:List AOper :=
  [oQ 26 (.mv Z1) [],oQ 27 (.mv Z0) [],oQ 28 (.mv Z6) [],oQ 29 (.idxA 1 Z27 Z28) [1,2],oQ 30 (.load false 1 Z29) [3],oQ 31 (.bin .quo Z26 Z30) [0,4],oQ 1 (.mv Z31) [5,0,1,2,3,4,5]]
def l65r6:List AOper :=
  [oQ 15 (.mv Z6) [],oQ 16 (.bin .sub Z15 (.const (.int .i64 1))) [0],oQ 6 (.mv Z16) [1,0,1]]
def l65r7:List AOper :=
  [oQ 32 (.mv Z5) [],oQ 4 (.mv Z32) [0,0]]
def l65:AFn :=
  (AFn.mk 33 2 (.seq (.reg l65r0) (.seq (.reg l65r1) (.seq (.seq (.reg l65r2) (.block 0 (.loop (.seq (.seq (.reg l65r3) (.cond (.tmp 14) .skip (.exit 0))) (.seq (.block 1 (.seq (.reg l65r4) (.reg l65r5))) (.reg l65r6)))))) (.seq (.reg l65r7) .ret)))) [.tmp 4])
theorem l65_eq:lowFn Tryd.prog 65=some l65:=by kernel_rfl
def l71r0:List AOper :=
  [oQ 2 (.mv (.const (.slice none 0 0))) []]
def l71r1:List AOper :=
  [oQ 3 (.bslice 1 [.int .i64 0] [] 0) [],oQ 4 (.mv Z0) [],oQ 5 (.append 1 Z3 Z4) [0,1],oQ 2 (.mv Z5) [2,2,0,1,2]]
def l71:AFn :=
  (AFn.mk 6 1 (.seq (.reg l71r0) (.seq (.reg l71r1) .ret)) [.tmp 2])
theorem l71_eq:lowFn Tryd.prog 71=some l71:=by kernel_rfl
def l72r0:List AOper :=
  [oQ 1 (.box Z0) [],oQ 2 (.alloc [.int .i64 0,.slice none 0 0,.slice none 0 0]) []]
def l72r1a:List AOper :=
  [oQ 3 (.fld 0 Z1) [],oQ 4 (.load false 1 Z3) [0],oQ 5 (.fld 1 Z1) [],oQ 6 (.load false 1 Z5) [2],oQ 7 (.call 71 [Z6]) [3],oQ 8 (.fld 2 Z1) [],oQ 9 (.load false 1 Z8) [5],oQ 10 (.call 71 [Z9]) [6,4]]
def l72r1b:List AOper :=
  [oQ 11 (.build [.int .i64 0,.slice none 0 0,.slice none 0 0] [(0,1,Z4),(1,1,Z7),(2,1,Z10)]) [1,4,7],nQ (.store 3 Z2 Z11) [8,7,0,1,2,3,4,5,6,7,8]]
def l72r1:List AOper:=l72r1a ++ l72r1b
def l72:AFn :=
  (AFn.mk 12 1 (.seq (.reg l72r0) (.seq (.draw l72r1) .ret)) [.cell 2 true 3])
theorem l72_eq:lowFn Tryd.prog 72=some l72:=by kernel_rfl
def l73r0:List AOper :=
  [oQ 2 (.mv (.const (.bool false))) []]
def l73r1:List AOper :=
  [oQ 3 (.mv Z0) [],oQ 4 (.len Z3) [0],oQ 5 (.bin .leq Z4 (.const (.int .i64 4))) [1],oQ 6 (.mv Z5) [2],gQ 7 (.mv Z0) (some (6,true)) [3],gQ 8 (.call 27 [Z7,.const (.int .i64 0),.const (.int .i64 60)]) (some (6,true)) [4,3,3],oQ 9 (.pick Z6 Z8 (.const (.bool false))) [3,5],oQ 10 (.mv Z9) [6,5],gQ 11 (.mv Z0) (some (10,true)) [7],gQ 12 (.call 63 [Z11]) (some (10,true)) [8,7,7],gQ 13 (.bin .leq Z12 (.const (.int .i64 60))) (some (10,true)) [9,7],oQ 14 (.pick Z10 Z13 (.const (.bool false))) [7,10],oQ 2 (.mv Z14) [11,9,0,1,2,3,4,5,6,7,8,9,10,11]]
def l73:AFn :=
  (AFn.mk 15 1 (.seq (.reg l73r0) (.seq (.reg l73r1) .ret)) [.tmp 2])
theorem l73_eq:lowFn Tryd.prog 73=some l73:=by kernel_rfl
def l74r0:List AOper :=
  [oQ 2 (.box Z0) [],oQ 4 (.mv (.const (.bool false))) []]
def l74r1:List AOper :=
  [oQ 5 (.mv Z1) [],oQ 6 (.fld 1 Z2) [],oQ 7 (.load false 1 Z6) [1],oQ 8 (.len Z7) [2],oQ 9 (.bin .sub Z8 (.const (.int .i64 1))) [3],oQ 10 (.call 25 [Z5,.const (.int .i64 0),Z9]) [0,4],oQ 4 (.mv Z10) [5,5,0,1,2,3,4,5]]
def l74:AFn :=
  (AFn.mk 11 2 (.seq (.reg l74r0) (.seq (.reg l74r1) .ret)) [.tmp 4])
theorem l74_eq:lowFn Tryd.prog 74=some l74:=by kernel_rfl
def l75r0:List AOper :=
  [oQ 1 (.box Z0) [],oQ 2 (.mv (.const (.bool false))) []]
def l75r1:List AOper :=
  [oQ 3 (.fld 0 Z1) [],oQ 4 (.load false 1 Z3) [0],oQ 5 (.call 25 [Z4,.const (.int .i64 (-100)),.const (.int .i64 100)]) [1],oQ 6 (.mv Z5) [2,2],gQ 7 (.fld 1 Z1) (some (6,true)) [3],gQ 8 (.load false 1 Z7) (some (6,true)) [4,3],gQ 9 (.call 25 [Z8,.const (.int .i64 (-100)),.const (.int .i64 100)]) (some (6,true)) [5,3,3],oQ 10 (.pick Z6 Z9 (.const (.bool false))) [3,6],oQ 11 (.mv Z10) [7,6],gQ 12 (.fld 2 Z1) (some (11,true)) [8],gQ 13 (.load false 1 Z12) (some (11,true)) [9,8],gQ 14 (.call 25 [Z13,.const (.int .i64 (-200)),.const (.int .i64 200)]) (some (11,true)) [10,8,8],oQ 15 (.pick Z11 Z14 (.const (.bool false))) [8,11],oQ 16 (.mv Z15) [12,11],gQ 17 (.fld 2 Z1) (some (16,true)) [13],gQ 18 (.load false 1 Z17) (some (16,true)) [14,13],gQ 19 (.bin .neq Z18 (.const (.int .i64 0))) (some (16,true)) [15,13],oQ 20 (.pick Z16 Z19 (.const (.bool false))) [13,16],oQ 21 (.mv Z20) [17,13],gQ 22 (.fld 3 Z1) (some (21,true)) [18],gQ 23 (.load false 1 Z22) (some (21,true)) [19,18],gQ 24 (.mv Z23) (some (21,true)) [20,18,18],gQ 25 (.fld 0 Z1) (some (24,false)) [21],gQ 26 (.load false 1 Z25) (some (24,false)) [22,21],gQ 27 (.bin .eql Z26 (.const (.int .i64 0))) (some (24,false)) [23,21],gQ 28 (.pick Z24 (.const (.bool true)) Z27) (some (21,true)) [21,24,18],oQ 29 (.pick Z21 Z28 (.const (.bool false))) [18,25],oQ 30 (.mv Z29) [26,21],gQ 31 (.fld 4 Z1) (some (30,true)) [27],gQ 32 (.load false 1 Z31) (some (30,true)) [28,27],gQ 33 (.mv Z32) (some (30,true)) [29,27,27],gQ 34 (.fld 1 Z1) (some (33,false)) [30],gQ 35 (.load false 1 Z34) (some (33,false)) [31,30],gQ 36 (.bin .eql Z35 (.const (.int .i64 0))) (some (33,false)) [32,30],gQ 37 (.pick Z33 (.const (.bool true)) Z36) (some (30,true)) [30,33,27],oQ 38 (.pick Z30 Z37 (.const (.bool false))) [27,34],oQ 2 (.mv Z38) [35,30,0,1,2,3,4,5,6,7,8,9,10,11,12,13,14,15,16,17,18,19,20,21,22,23,24,25,26,27,28,29,30,31,32,33,34,35]]
def l75:AFn :=
  (AFn.mk 39 1 (.seq (.reg l75r0) (.seq (.reg l75r1) .ret)) [.tmp 2])
theorem l75_eq:lowFn Tryd.prog 75=some l75:=by kernel_rfl
def l76r0:List AOper :=
  [oQ 1 (.box Z0) [],oQ 2 (.alloc [.int .i64 0,.slice none 0 0,.slice none 0 0]) [],oQ 3 (.mv (.const (.bool false))) []]
def l76r1:List AOper :=
  [oQ 4 (.load true 3 Z1) [],oQ 5 (.call 56 [Z4]) [0],oQ 6 (.un .not Z5) [1]]
def l76r2:List AOper :=
  [oQ 7 (.build [.int .i64 0,.slice none 0 0,.slice none 0 0] []) [],nQ (.store 3 Z2 Z7) [0,0],oQ 3 (.mv (.const (.bool false))) [1,0,1]]
def l76r3:List AOper :=
  [oQ 8 (.load true 3 Z1) [],oQ 9 (.call 72 [Z8]) [0],nQ (.store 3 Z2 Z9) [1,1,0,1],oQ 3 (.mv (.const (.bool true))) [2,0,1,2]]
def l76:AFn :=
  (AFn.mk 10 1 (.seq (.reg l76r0) (.seq (.seq (.reg l76r1) (.cond (.tmp 6) (.seq (.reg l76r2) .ret) .skip)) (.seq (.reg l76r3) .ret))) [.cell 2 true 3,.tmp 3])
theorem l76_eq:lowFn Tryd.prog 76=some l76:=by kernel_rfl
def l77r0:List AOper :=
  [oQ 3 (.box Z0) [],oQ 5 (.box Z2) [],oQ 6 (.alloc [.int .i64 0,.slice none 0 0,.slice none 0 0]) []]
def l77r1:List AOper :=
  [oQ 10 (.load true 3 Z3) [],oQ 11 (.call 72 [Z10]) [0],oQ 7 (.alloc [.int .i64 0,.slice none 0 0,.slice none 0 0]) [],nQ (.store 3 Z7 Z11) [2,1,1,0,1,2]]
def l77r2a:List AOper :=
  [oQ 12 (.fld 1 Z3) [],oQ 13 (.load false 1 Z12) [0],oQ 14 (.mv Z1) [],oQ 15 (.idxA 1 Z13 Z14) [1,2],oQ 16 (.load false 1 Z15) [3],oQ 17 (.load true 5 Z5) [],oQ 18 (.call 84 [Z16,Z17]) [4,5],oQ 19 (.call 83 [Z18]) [6,6],oQ 8 (.alloc [.int .i64 0,.int .i64 0,.int .i64 0]) []]
def l77r2b:List AOper :=
  [nQ (.store 3 Z8 Z19) [8,7,7,0,1,2,3,4,5,6,7,8]]
def l77r2:List AOper:=l77r2a ++ l77r2b
def l77r3:List AOper :=
  [oQ 20 (.load true 3 Z8) [],oQ 21 (.call 85 [Z20]) [0],oQ 9 (.mv Z21) [1,1,0,1]]
def l77r4:List AOper :=
  [oQ 22 (.fld 1 Z7) [],oQ 23 (.load false 1 Z22) [0],oQ 24 (.mv Z1) [],oQ 25 (.mv Z9) [],oQ 26 (.len Z25) [3],oQ 27 (.idxA 1 Z23 Z24) [1,2,0,1,2,3,4],nQ (.store 1 Z27 Z26) [5,4,0,1,2,3,4]]
def l77r5a:List AOper :=
  [oQ 28 (.fld 0 Z3) [],oQ 29 (.load false 1 Z28) [0],oQ 30 (.fld 0 Z8) [],oQ 31 (.load false 1 Z30) [2],oQ 32 (.fld 2 Z3) [],oQ 33 (.load false 1 Z32) [4],oQ 34 (.mv Z1) [],oQ 35 (.idxA 1 Z33 Z34) [5,6],oQ 36 (.load false 1 Z35) [7],oQ 37 (.bin .mul Z31 Z36) [3,8]]
def l77r5b:List AOper :=
  [oQ 38 (.bin .add Z29 Z37) [1,9],oQ 39 (.fld 0 Z7) [0,1,2,3,4,5,6,7,8,9,10],nQ (.store 1 Z39 Z38) [11,10,0,1,2,3,4,5,6,7,8,9,10]]
def l77r5:List AOper:=l77r5a ++ l77r5b
def l77r6a:List AOper :=
  [oQ 40 (.fld 2 Z7) [],oQ 41 (.load false 1 Z40) [0],oQ 42 (.mv Z1) [],oQ 43 (.fld 2 Z8) [],oQ 44 (.load false 1 Z43) [3],oQ 45 (.fld 2 Z3) [],oQ 46 (.load false 1 Z45) [5],oQ 47 (.mv Z1) [],oQ 48 (.idxA 1 Z46 Z47) [6,7],oQ 49 (.load false 1 Z48) [8],oQ 50 (.bin .mul Z44 Z49) [4,9]]
def l77r6b:List AOper :=
  [oQ 51 (.idxA 1 Z41 Z42) [1,2,0,1,2,3,4,5,6,7,8,9,10],nQ (.store 1 Z51 Z50) [11,10,0,1,2,3,4,5,6,7,8,9,10]]
def l77r6:List AOper:=l77r6a ++ l77r6b
def l77r7:List AOper :=
  [oQ 52 (.mv Z9) [],oQ 53 (.len Z52) [0],oQ 54 (.bin .leq Z53 (.const (.int .i64 1))) [1]]
def l77r8:List AOper :=
  [oQ 55 (.fld 2 Z7) [],oQ 56 (.load false 1 Z55) [0],oQ 57 (.mv Z1) [],oQ 58 (.idxA 1 Z56 Z57) [1,2,0,1,2],nQ (.store 1 Z58 (.const (.int .i64 0))) [3,0,1,2]]
def l77r9:List AOper :=
  [oQ 59 (.load true 3 Z7) [],oQ 60 (.call 86 [Z59]) [0],nQ (.store 3 Z6 Z60) [1,1,0,1]]
def l77:AFn :=
  (AFn.mk 61 3 (.seq (.reg l77r0) (.seq (.reg l77r1) (.seq (.draw l77r2) (.seq (.reg l77r3) (.seq (.reg l77r4) (.seq (.draw l77r5) (.seq (.draw l77r6) (.seq (.seq (.reg l77r7) (.cond (.tmp 54) (.reg l77r8) .skip)) (.seq (.reg l77r9) .ret))))))))) [.cell 6 true 3])
theorem l77_eq:lowFn Tryd.prog 77=some l77:=by kernel_rfl
def l78r0:List AOper :=
  [oQ 3 (.box Z1) [],oQ 4 (.mv (.const (.bool false))) []]
def l78r1:List AOper :=
  [oQ 5 (.mv Z0) [],oQ 6 (.call 54 [Z5]) [0],oQ 7 (.mv Z6) [1,1],gQ 8 (.load true 3 Z3) (some (7,true)) [2],gQ 9 (.call 56 [Z8]) (some (7,true)) [3,2,2],oQ 10 (.pick Z7 Z9 (.const (.bool false))) [2,4],oQ 11 (.mv Z10) [5,4],gQ 12 (.load true 3 Z3) (some (11,true)) [6],gQ 13 (.mv Z0) (some (11,true)) [6],gQ 14 (.len Z13) (some (11,true)) [8,6],gQ 15 (.call 57 [Z12,Z14]) (some (11,true)) [7,9,6,6],oQ 16 (.pick Z11 Z15 (.const (.bool false))) [6,10],oQ 4 (.mv Z16) [11,10,0,1,2,3,4,5,6,7,8,9,10,11]]
def l78:AFn :=
  (AFn.mk 17 2 (.seq (.reg l78r0) (.seq (.reg l78r1) .ret)) [.tmp 4])
theorem l78_eq:lowFn Tryd.prog 78=some l78:=by kernel_rfl
def l79r0:List AOper :=
  [oQ 4 (.box Z1) [],oQ 5 (.box Z2) [],oQ 6 (.mv (.const (.bool false))) []]
def l79r1:List AOper :=
  [oQ 7 (.mv Z0) [],oQ 8 (.load true 3 Z4) [],oQ 9 (.call 78 [Z7,Z8]) [0,1],oQ 10 (.mv Z9) [2,2],gQ 11 (.mv Z0) (some (10,true)) [3],gQ 12 (.load true 3 Z5) (some (10,true)) [3],gQ 13 (.call 78 [Z11,Z12]) (some (10,true)) [4,5,3,3],oQ 14 (.pick Z10 Z13 (.const (.bool false))) [3,6],oQ 15 (.mv Z14) [7,6],gQ 16 (.fld 1 Z4) (some (15,true)) [8],gQ 17 (.load false 1 Z16) (some (15,true)) [9,8],gQ 18 (.fld 1 Z5) (some (15,true)) [8],gQ 19 (.load false 1 Z18) (some (15,true)) [11,8],gQ 20 (.call 87 [Z17,Z19]) (some (15,true)) [10,12,8,8],oQ 21 (.pick Z15 Z20 (.const (.bool false))) [8,13],oQ 6 (.mv Z21) [14,13,0,1,2,3,4,5,6,7,8,9,10,11,12,13,14]]
def l79:AFn :=
  (AFn.mk 22 3 (.seq (.reg l79r0) (.seq (.reg l79r1) .ret)) [.tmp 6])
theorem l79_eq:lowFn Tryd.prog 79=some l79:=by kernel_rfl
def l80r0:List AOper :=
  [oQ 4 (.box Z1) [],oQ 6 (.mv (.const (.slice none 0 0))) []]
def l80r1:List AOper :=
  [oQ 10 (.mv Z0) [],oQ 11 (.call 71 [Z10]) [0],oQ 7 (.mv Z11) [1,1,0,1]]
def l80r2:List AOper :=
  [oQ 12 (.load true 3 Z4) [],oQ 13 (.call 48 [Z12]) [0],oQ 8 (.mv Z13) [1,1,0,1]]
def l80r3:List AOper :=
  [oQ 9 (.mv (.const (.int .i64 0))) []]
def l80r4:List AOper :=
  [oQ 14 (.mv Z9) [],oQ 15 (.mv Z8) [],oQ 16 (.len Z15) [1],oQ 17 (.bin .lss Z14 Z16) [0,2]]
def l80r5a:List AOper :=
  [oQ 20 (.mv Z7) [],oQ 21 (.mv Z8) [],oQ 22 (.mv Z9) [],oQ 23 (.idxA 1 Z21 Z22) [1,2],oQ 24 (.load false 1 Z23) [3],oQ 25 (.mv Z2) [],oQ 26 (.mv Z9) [],oQ 27 (.idxA 1 Z25 Z26) [5,6],oQ 28 (.load false 1 Z27) [7]]
def l80r5b:List AOper :=
  [oQ 29 (.idxA 1 Z20 Z24) [0,4,0,1,2,3,4,5,6,7,8],nQ (.store 1 Z29 Z28) [9,8,0,1,2,3,4,5,6,7,8]]
def l80r5:List AOper:=l80r5a ++ l80r5b
def l80r6:List AOper :=
  [oQ 18 (.mv Z9) [],oQ 19 (.bin .add Z18 (.const (.int .i64 1))) [0],oQ 9 (.mv Z19) [1,0,1]]
def l80r7:List AOper :=
  [oQ 30 (.mv Z7) [],oQ 6 (.mv Z30) [0,0]]
def l80:AFn :=
  (AFn.mk 31 3 (.seq (.reg l80r0) (.seq (.reg l80r1) (.seq (.reg l80r2) (.seq (.seq (.reg l80r3) (.block 0 (.loop (.seq (.seq (.reg l80r4) (.cond (.tmp 17) .skip (.exit 0))) (.seq (.block 1 (.draw l80r5)) (.reg l80r6)))))) (.seq (.reg l80r7) .ret))))) [.tmp 6])
theorem l80_eq:lowFn Tryd.prog 80=some l80:=by kernel_rfl
def l83r0:List AOper :=
  [oQ 2 (.alloc [.int .i64 0,.int .i64 0,.int .i64 0]) []]
def l83r1:List AOper :=
  [oQ 5 (.mv Z0) [],oQ 6 (.len Z5) [0]]
def l83r2:List AOper :=
  [oQ 8 (.bin .eql Z6 (.const (.int .i64 0))) [],oQ 7 (.mv Z8) [0]]
def l83r3:List AOper :=
  [oQ 9 (.build [.int .i64 0,.int .i64 0,.int .i64 0] [(0,1,.const (.int .i64 0)),(1,1,.const (.int .i64 0)),(2,1,.const (.int .i64 1))]) [],nQ (.store 3 Z2 Z9) [0,0]]
def l83r4:List AOper :=
  [oQ 11 (.bin .eql Z6 (.const (.int .i64 1))) [],oQ 10 (.mv Z11) [0]]
def l83r5a:List AOper :=
  [oQ 12 (.mv Z0) [],oQ 13 (.idxA 1 Z12 (.const (.int .i64 0))) [0],oQ 14 (.load false 1 Z13) [1],oQ 15 (.mv Z0) [],oQ 16 (.idxA 1 Z15 (.const (.int .i64 0))) [3],oQ 17 (.load false 1 Z16) [4],oQ 18 (.bin .add Z17 (.const (.int .i64 1))) [5]]
def l83r5b:List AOper :=
  [oQ 19 (.build [.int .i64 0,.int .i64 0,.int .i64 0] [(0,1,Z14),(1,1,Z18),(2,1,.const (.int .i64 1))]) [2,6],nQ (.store 3 Z2 Z19) [7,0,1,2,3,4,5,6,7]]
def l83r5:List AOper:=l83r5a ++ l83r5b
def l83r6a:List AOper :=
  [oQ 20 (.mv Z0) [],oQ 21 (.idxA 1 Z20 (.const (.int .i64 1))) [0],oQ 22 (.load false 1 Z21) [1],oQ 23 (.mv Z0) [],oQ 24 (.idxA 1 Z23 (.const (.int .i64 0))) [3],oQ 25 (.load false 1 Z24) [4]]
def l83r6b:List AOper :=
  [oQ 26 (.bin .sub Z22 Z25) [2,5],oQ 3 (.mv Z26) [6,0,1,2,3,4,5,6]]
def l83r6:List AOper:=l83r6a ++ l83r6b
def l83r7:List AOper :=
  [oQ 27 (.mv Z0) [],oQ 28 (.mv Z0) [],oQ 29 (.len Z28) [1],oQ 30 (.bin .sub Z29 (.const (.int .i64 1))) [2],oQ 31 (.idxA 1 Z27 Z30) [0,3],oQ 32 (.load false 1 Z31) [4],oQ 33 (.bin .add Z32 (.const (.int .i64 1))) [5],oQ 4 (.mv Z33) [6,0,1,2,3,4,5,6]]
def l83r8:List AOper :=
  [oQ 34 (.mv Z3) [],oQ 35 (.bin .lss Z34 (.const (.int .i64 0))) [0]]
def l83r9:List AOper :=
  [oQ 36 (.mv Z0) [],oQ 37 (.mv Z0) [],oQ 38 (.len Z37) [1],oQ 39 (.bin .sub Z38 (.const (.int .i64 1))) [2],oQ 40 (.idxA 1 Z36 Z39) [0,3],oQ 41 (.load false 1 Z40) [4],oQ 42 (.bin .sub Z41 (.const (.int .i64 1))) [5],oQ 4 (.mv Z42) [6,0,1,2,3,4,5,6]]
def l83r10:List AOper :=
  [oQ 43 (.mv Z0) [],oQ 44 (.idxA 1 Z43 (.const (.int .i64 0))) [0],oQ 45 (.load false 1 Z44) [1],oQ 46 (.mv Z4) [],oQ 47 (.mv Z3) [],oQ 48 (.build [.int .i64 0,.int .i64 0,.int .i64 0] [(0,1,Z45),(1,1,Z46),(2,1,Z47)]) [2,3,4],nQ (.store 3 Z2 Z48) [5,0,1,2,3,4,5]]
def l83:AFn :=
  (AFn.mk 49 1 (.seq (.reg l83r0) (.seq (.seq (.reg l83r1) (.block 0 (.seq (.reg l83r2) (.cond (.tmp 7) (.seq (.reg l83r3) .ret) (.seq (.reg l83r4) (.cond (.tmp 10) (.seq (.draw l83r5) .ret) .skip)))))) (.seq (.draw l83r6) (.seq (.reg l83r7) (.seq (.seq (.reg l83r8) (.cond (.tmp 35) (.reg l83r9) .skip)) (.seq (.reg l83r10) .ret)))))) [.cell 2 true 3])
theorem l83_eq:lowFn Tryd.prog 83=some l83:=by kernel_rfl
def l84r0:List AOper :=
  [oQ 3 (.box Z1) [],oQ 4 (.mv (.const (.slice none 0 0))) []]
def l84r1:List AOper :=
  [oQ 5 (.mv (.const (.int .i64 0))) []]
def l84r2:List AOper :=
  [oQ 7 (.mv Z0) [],oQ 6 (.mv Z7) [0,0]]
def l84r3:List AOper :=
  [oQ 8 (.fld 2 Z3) [],oQ 9 (.load false 1 Z8) [0],oQ 10 (.bin .lss Z9 (.const (.int .i64 0))) [1]]
def l84r4:List AOper :=
  [oQ 11 (.mv Z0) [],oQ 12 (.bin .sub Z11 (.const (.int .i64 1))) [0],oQ 5 (.mv Z12) [1,0,1]]
def l84r5:List AOper :=
  [oQ 6 (.mv (.const (.int .i64 (-1)))) []]
def l84r6:List AOper :=
  [oQ 13 (.fld 3 Z3) [],oQ 14 (.load false 1 Z13) [0]]
def l84r7:List AOper :=
  [oQ 15 (.mv Z0) [],oQ 16 (.fld 0 Z3) [],oQ 17 (.load false 1 Z16) [1],oQ 18 (.fld 2 Z3) [],oQ 19 (.load false 1 Z18) [3],oQ 20 (.call 88 [Z15,Z17,Z19]) [0,2,4],oQ 5 (.mv Z20) [5,5,0,1,2,3,4,5]]
def l84r8:List AOper :=
  [oQ 21 (.fld 4 Z3) [],oQ 22 (.load false 1 Z21) [0]]
def l84r9:List AOper :=
  [oQ 23 (.mv Z0) [],oQ 24 (.fld 1 Z3) [],oQ 25 (.load false 1 Z24) [1],oQ 26 (.fld 2 Z3) [],oQ 27 (.load false 1 Z26) [3],oQ 28 (.call 88 [Z23,Z25,Z27]) [0,2,4],oQ 6 (.mv Z28) [5,5,0,1,2,3,4,5]]
def l84r10:List AOper :=
  [oQ 29 (.mv Z5) [],oQ 30 (.mv Z6) [],oQ 31 (.fld 2 Z3) [],oQ 32 (.load false 1 Z31) [2],oQ 33 (.build [.int .i64 0,.int .i64 0,.int .i64 0] [(0,1,Z29),(1,1,Z30),(2,1,Z32)]) [0,1,3],oQ 34 (.call 85 [Z33]) [4],oQ 4 (.mv Z34) [5,5,0,1,2,3,4,5]]
def l84:AFn :=
  (AFn.mk 35 2 (.seq (.reg l84r0) (.seq (.reg l84r1) (.seq (.reg l84r2) (.seq (.seq (.reg l84r3) (.cond (.tmp 10) (.seq (.reg l84r4) (.reg l84r5)) .skip)) (.seq (.seq (.reg l84r6) (.cond (.tmp 14) (.reg l84r7) .skip)) (.seq (.seq (.reg l84r8) (.cond (.tmp 22) (.reg l84r9) .skip)) (.seq (.reg l84r10) .ret))))))) [.tmp 4])
theorem l84_eq:lowFn Tryd.prog 84=some l84:=by kernel_rfl
def l85r0:List AOper :=
  [oQ 1 (.box Z0) [],oQ 2 (.mv (.const (.slice none 0 0))) []]
def l85r1:List AOper :=
  [oQ 5 (.bslice 1 [.int .i64 0] [] 0) [],oQ 3 (.mv Z5) [0,0]]
def l85r2:List AOper :=
  [oQ 6 (.fld 0 Z1) [],oQ 7 (.load false 1 Z6) [0],oQ 4 (.mv Z7) [1,0,1]]
def l85r3:List AOper :=
  [oQ 8 (.fld 2 Z1) [],oQ 9 (.load false 1 Z8) [0],oQ 10 (.bin .gtr Z9 (.const (.int .i64 0))) [1],oQ 11 (.mv Z10) [2],gQ 12 (.mv Z4) (some (11,true)) [3],gQ 13 (.fld 1 Z1) (some (11,true)) [3],gQ 14 (.load false 1 Z13) (some (11,true)) [5,3],gQ 15 (.bin .lss Z12 Z14) (some (11,true)) [4,6,3],oQ 16 (.pick Z11 Z15 (.const (.bool false))) [3,7],oQ 17 (.mv Z16) [8,3],gQ 18 (.fld 2 Z1) (some (17,false)) [9],gQ 19 (.load false 1 Z18) (some (17,false)) [10,9],gQ 20 (.bin .lss Z19 (.const (.int .i64 0))) (some (17,false)) [11,9],gQ 21 (.mv Z20) (some (17,false)) [12,9,9],gQ 22 (.mv Z4) (some (21,true)) [13],gQ 23 (.fld 1 Z1) (some (21,true)) [13],gQ 24 (.load false 1 Z23) (some (21,true)) [15,13],gQ 25 (.bin .gtr Z22 Z24) (some (21,true)) [14,16,13],gQ 26 (.pick Z21 Z25 (.const (.bool false))) (some (17,false)) [13,17,9],oQ 27 (.pick Z17 (.const (.bool true)) Z26) [9,18]]
def l85r4:List AOper :=
  [oQ 32 (.mv Z3) [],oQ 33 (.mv Z4) [],oQ 34 (.bslice 1 [.int .i64 0] [(0,Z33)] 1) [1],oQ 35 (.append 1 Z32 Z34) [0,2],oQ 3 (.mv Z35) [3,3,0,1,2,3]]
def l85r5:List AOper :=
  [oQ 28 (.mv Z4) [],oQ 29 (.fld 2 Z1) [],oQ 30 (.load false 1 Z29) [1],oQ 31 (.bin .add Z28 Z30) [0,2],oQ 4 (.mv Z31) [3,0,1,2,3]]
def l85r6:List AOper :=
  [oQ 36 (.mv Z3) [],oQ 2 (.mv Z36) [0,0]]
def l85:AFn :=
  (AFn.mk 37 1 (.seq (.reg l85r0) (.seq (.reg l85r1) (.seq (.seq (.reg l85r2) (.block 0 (.loop (.seq (.seq (.reg l85r3) (.cond (.tmp 27) .skip (.exit 0))) (.seq (.block 1 (.reg l85r4)) (.reg l85r5)))))) (.seq (.reg l85r6) .ret)))) [.tmp 2])
theorem l85_eq:lowFn Tryd.prog 85=some l85:=by kernel_rfl
def l86r0:List AOper :=
  [oQ 1 (.box Z0) [],oQ 2 (.alloc [.int .i64 0,.slice none 0 0,.slice none 0 0]) []]
def l86r1:List AOper :=
  [oQ 3 (.fld 1 Z1) [],oQ 4 (.load false 1 Z3) [0],oQ 5 (.call 63 [Z4]) [1],oQ 6 (.bin .eql Z5 (.const (.int .i64 0))) [2]]
def l86r2a:List AOper :=
  [oQ 7 (.fld 1 Z1) [],oQ 8 (.load false 1 Z7) [0],oQ 9 (.fld 1 Z1) [],oQ 10 (.load false 1 Z9) [2],oQ 11 (.len Z10) [3],oQ 12 (.mkslice 1 [.int .i64 0] Z11 Z11) [4,4]]
def l86r2b:List AOper :=
  [oQ 13 (.build [.int .i64 0,.slice none 0 0,.slice none 0 0] [(1,1,Z8),(2,1,Z12)]) [1,5],nQ (.store 3 Z2 Z13) [6,0,1,2,3,4,5,6]]
def l86r2:List AOper:=l86r2a ++ l86r2b
def l86r3:List AOper :=
  [oQ 14 (.load true 3 Z1) [],nQ (.store 3 Z2 Z14) [0,0]]
def l86:AFn :=
  (AFn.mk 15 1 (.seq (.reg l86r0) (.seq (.seq (.reg l86r1) (.cond (.tmp 6) (.seq (.draw l86r2) .ret) .skip)) (.seq (.reg l86r3) .ret))) [.cell 2 true 3])
theorem l86_eq:lowFn Tryd.prog 86=some l86:=by kernel_rfl
def l87r0:List AOper :=
  [oQ 4 (.mv (.const (.bool false))) []]
def l87r1:List AOper :=
  [oQ 6 (.mv Z0) [],oQ 7 (.len Z6) [0],oQ 8 (.mv Z1) [],oQ 9 (.len Z8) [2],oQ 10 (.bin .neq Z7 Z9) [1,3]]
def l87r2:List AOper :=
  [oQ 4 (.mv (.const (.bool false))) []]
def l87r3:List AOper :=
  [oQ 5 (.mv (.const (.int .i64 0))) []]
def l87r4:List AOper :=
  [oQ 11 (.mv Z5) [],oQ 12 (.mv Z0) [],oQ 13 (.len Z12) [1],oQ 14 (.bin .lss Z11 Z13) [0,2]]
def l87r5a:List AOper :=
  [oQ 17 (.mv Z0) [],oQ 18 (.mv Z5) [],oQ 19 (.idxA 1 Z17 Z18) [0,1],oQ 20 (.load false 1 Z19) [2],oQ 21 (.mv Z1) [],oQ 22 (.mv Z5) [],oQ 23 (.idxA 1 Z21 Z22) [4,5],oQ 24 (.load false 1 Z23) [6]]
def l87r5b:List AOper :=
  [oQ 25 (.bin .neq Z20 Z24) [3,7]]
def l87r5:List AOper:=l87r5a ++ l87r5b
def l87r6:List AOper :=
  [oQ 4 (.mv (.const (.bool false))) []]
def l87r7:List AOper :=
  [oQ 15 (.mv Z5) [],oQ 16 (.bin .add Z15 (.const (.int .i64 1))) [0],oQ 5 (.mv Z16) [1,0,1]]
def l87r8:List AOper :=
  [oQ 4 (.mv (.const (.bool true))) []]
def l87:AFn :=
  (AFn.mk 26 2 (.seq (.reg l87r0) (.seq (.seq (.reg l87r1) (.cond (.tmp 10) (.seq (.reg l87r2) .ret) .skip)) (.seq (.seq (.reg l87r3) (.block 0 (.loop (.seq (.seq (.reg l87r4) (.cond (.tmp 14) .skip (.exit 0))) (.seq (.block 1 (.seq (.draw l87r5) (.cond (.tmp 25) (.seq (.reg l87r6) .ret) .skip))) (.reg l87r7)))))) (.seq (.reg l87r8) .ret)))) [.tmp 4])
theorem l87_eq:lowFn Tryd.prog 87=some l87:=by kernel_rfl
def l88r0:List AOper :=
  [oQ 6 (.mv (.const (.int .i64 0))) []]
def l88r1:List AOper :=
  [oQ 7 (.mv (.const (.int .i64 0))) []]
def l88r2:List AOper :=
  [oQ 9 (.mv Z0) [],oQ 8 (.mv Z9) [0,0]]
def l88r3:List AOper :=
  [oQ 10 (.mv Z2) [],oQ 11 (.bin .lss Z10 (.const (.int .i64 0))) [0]]
def l88r4:List AOper :=
  [oQ 7 (.mv (.const (.int .i64 (-1)))) []]
def l88r5:List AOper :=
  [oQ 12 (.mv Z0) [],oQ 13 (.bin .sub Z12 (.const (.int .i64 1))) [0],oQ 8 (.mv Z13) [1,0,1]]
def l88r6:List AOper :=
  [oQ 14 (.mv Z1) [],oQ 15 (.bin .lss Z14 (.const (.int .i64 0))) [0]]
def l88r7:List AOper :=
  [oQ 16 (.mv Z1) [],oQ 17 (.mv Z0) [],oQ 18 (.bin .add Z16 Z17) [0,1],oQ 1 (.mv Z18) [2,0,1,2]]
def l88r8:List AOper :=
  [oQ 19 (.mv Z8) [],oQ 20 (.mv Z7) [],oQ 21 (.mv Z1) [],oQ 22 (.minmax true Z20 Z21) [1,2],oQ 23 (.minmax false Z19 Z22) [0,3],oQ 6 (.mv Z23) [4,0,1,2,3,4]]
def l88:AFn :=
  (AFn.mk 24 3 (.seq (.reg l88r0) (.seq (.reg l88r1) (.seq (.reg l88r2) (.seq (.seq (.reg l88r3) (.cond (.tmp 11) (.seq (.reg l88r4) (.reg l88r5)) .skip)) (.seq (.seq (.reg l88r6) (.cond (.tmp 15) (.reg l88r7) .skip)) (.seq (.reg l88r8) .ret)))))) [.tmp 6])
theorem l88_eq:lowFn Tryd.prog 88=some l88:=by kernel_rfl
end Go.Proofs.YtfccepgibbdfaaaDoor
