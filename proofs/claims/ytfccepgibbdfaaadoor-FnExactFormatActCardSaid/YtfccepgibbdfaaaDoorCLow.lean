import Derived.Test.YtfccepgibbdfaaaDoorCW3
import Derived.Test.YtfccepgibbdfaaaDoorProg
import Derived.KernelRfl
set_option maxRecDepth 100000
namespace Go.Proofs.YtfccepgibbdfaaaDoor
open Vw Go
/-- The other tables. -/
class PowA where
  rest:List (Nat × List Value)
instance globs [PowA]:Inhabited GlobT:=⟨⟨(0,[.string (ByteArray.mk (Array.mk [115,105,122,101])),.int .i64 1,.string (ByteArray.mk (Array.mk [118,105,101,119])),.int .i64 3,.string (ByteArray.mk (Array.mk [112,97,114,116])),.int .i64 4,.string (ByteArray.mk (Array.mk [102,108,105,112])),.int .i64 1,.string (ByteArray.mk (Array.mk [102,105,108,108])),.int .i64 2,.string (ByteArray.mk (Array.mk [99,111,112,121])),.int .i64 2,.string (ByteArray.mk (Array.mk [108,111,97,100])),.int .i64 1,.string (ByteArray.mk (Array.mk [102,114,101,101])),.int .i64 1]) :: PowA.rest⟩⟩
attribute [push_cast] Bool.false_eq_true List.length_replicate
attribute [bitvec_to_nat] decide_eq_true_eq decide_eq_false_iff_not Bool.not_eq_true' Bool.not_eq_false' Bool.and_eq_true Bool.or_eq_true Bool.and_eq_false_iff Bool.or_eq_false_iff Int.not_le Int.not_lt bne_iff_ne ne_eq beq_iff_eq Bool.not_eq_true Bool.not_eq_false
theorem sd {P:Prop} (h:P:=by first|assumption|rfl|omega|(simp<;>omega)|(simp_all<;>omega)):P:=h
abbrev oQ (d:Nat) (p:AOp) (a:List Nat):AOper:=⟨some d,p,none,a⟩
abbrev gQ (d:Nat) (p:AOp) (g:Option (Nat × Bool)) (a:List Nat):AOper:=⟨some d,p,g,a⟩
abbrev nQ (p:AOp) (a:List Nat):AOper:=⟨none,p,none,a⟩
abbrev Z0:=Operand.tmp 0
abbrev Z1:=Operand.tmp 1
abbrev Z2:=Operand.tmp 2
abbrev Z3:=Operand.tmp 3
abbrev Z4:=Operand.tmp 4
abbrev Z5:=Operand.tmp 5
abbrev Z6:=Operand.tmp 6
abbrev Z7:=Operand.tmp 7
abbrev Z8:=Operand.tmp 8
abbrev Z9:=Operand.tmp 9
abbrev Z10:=Operand.tmp 10
abbrev Z11:=Operand.tmp 11
abbrev Z12:=Operand.tmp 12
abbrev Z13:=Operand.tmp 13
abbrev Z14:=Operand.tmp 14
abbrev Z15:=Operand.tmp 15
abbrev Z16:=Operand.tmp 16
abbrev Z17:=Operand.tmp 17
abbrev Z18:=Operand.tmp 18
abbrev Z19:=Operand.tmp 19
abbrev Z20:=Operand.tmp 20
abbrev Z21:=Operand.tmp 21
abbrev Z22:=Operand.tmp 22
abbrev Z23:=Operand.tmp 23
abbrev Z24:=Operand.tmp 24
abbrev Z25:=Operand.tmp 25
abbrev Z26:=Operand.tmp 26
abbrev Z27:=Operand.tmp 27
abbrev Z28:=Operand.tmp 28
abbrev Z29:=Operand.tmp 29
abbrev Z30:=Operand.tmp 30
def l3r0:List AOper :=
  [oQ 1 (.box Z0) [],oQ 2 (.mv (.const (.bool false))) []]
def l3r1:List AOper :=
  [oQ 3 (.mv (.const (.int .i64 1048576))) []]
def l3r2:List AOper :=
  [oQ 7 (.load true 2 Z1) [],oQ 8 (.mv Z3) [],oQ 9 (.call 5 [Z7,Z8]) [0,1],oQ 3 (.mv Z9) [2,2,0,1,2]]
def l3r3:List AOper :=
  [oQ 10 (.mv Z3) [],oQ 11 (.bin .lss Z10 (.const (.int .i64 0))) [0]]
def l3r4:List AOper :=
  [oQ 2 (.mv (.const (.bool true))) []]
def l3r5:List AOper :=
  [oQ 12 (.load true 2 Z1) [],oQ 13 (.call 7 [Z12]) [0],oQ 14 (.call 6 [Z13]) [1,1],oQ 4 (.mv Z14) [2,2,0,1,2]]
def l3r6:List AOper :=
  [oQ 15 (.load true 2 Z1) [],oQ 16 (.call 7 [Z15]) [0],oQ 5 (.alloc [.int .i64 0,.slice none 0 0]) [],nQ (.store 2 Z5 Z16) [2,1,1,0,1,2]]
def l3r7:List AOper :=
  [oQ 17 (.load true 2 Z5) [],oQ 18 (.call 8 [Z17]) [0],oQ 6 (.mv Z18) [1,1,0,1]]
def l3r8:List AOper :=
  [oQ 19 (.mv Z6) [],oQ 20 (.mv Z4) [],oQ 21 (.bin .neq Z19 Z20) [0,1]]
def l3r9:List AOper :=
  [oQ 2 (.mv (.const (.bool false))) []]
def l3r10a:List AOper :=
  [oQ 22 (.load true 2 Z5) [],oQ 23 (.load true 2 Z1) [],oQ 24 (.call 7 [Z23]) [1]]
def l3r10b:List AOper :=
  [oQ 25 (.call 9 [Z22,Z24]) [0,2,2],oQ 26 (.un .not Z25) [3]]
def l3r10:List AOper:=l3r10a ++ l3r10b
def l3r11:List AOper :=
  [oQ 2 (.mv (.const (.bool false))) []]
def l3r12:List AOper :=
  [oQ 2 (.mv (.const (.bool true))) []]
def l3:AFn :=
  (AFn.mk 27 1 (.seq (.reg l3r0) (.seq (.reg l3r1) (.seq (.reg l3r2) (.seq (.seq (.reg l3r3) (.cond (.tmp 11) (.seq (.reg l3r4) .ret) .skip)) (.seq (.reg l3r5) (.seq (.reg l3r6) (.seq (.reg l3r7) (.seq (.seq (.reg l3r8) (.cond (.tmp 21) (.seq (.reg l3r9) .ret) .skip)) (.seq (.seq (.draw l3r10) (.cond (.tmp 26) (.seq (.reg l3r11) .ret) .skip)) (.seq (.reg l3r12) .ret)))))))))) [.tmp 2])
theorem l3_eq:lowFn Tryd.prog 3=some l3:=by kernel_rfl
def l5r0:List AOper :=
  [oQ 2 (.box Z0) [],oQ 4 (.mv (.const (.int .i64 0))) []]
def l5r1:List AOper :=
  [oQ 5 (.fld 1 Z2) [],oQ 6 (.load false 1 Z5) [0],oQ 7 (.mv Z1) [],oQ 8 (.call 13 [Z6,Z7]) [1,2],oQ 1 (.mv Z8) [3,3,0,1,2,3]]
def l5r2:List AOper :=
  [oQ 9 (.mv Z1) [],oQ 10 (.bin .lss Z9 (.const (.int .i64 0))) [0]]
def l5r3:List AOper :=
  [oQ 4 (.mv (.const (.int .i64 (-1)))) []]
def l5r4:List AOper :=
  [oQ 11 (.mv Z1) [],oQ 4 (.mv Z11) [0,0]]
def l5:AFn :=
  (AFn.mk 12 2 (.seq (.reg l5r0) (.seq (.reg l5r1) (.seq (.seq (.reg l5r2) (.cond (.tmp 10) (.seq (.reg l5r3) .ret) .skip)) (.seq (.reg l5r4) .ret)))) [.tmp 4])
theorem l5_eq:lowFn Tryd.prog 5=some l5:=by kernel_rfl
def l6r0:List AOper :=
  [oQ 1 (.box Z0) [],oQ 2 (.mv (.const (.string (ByteArray.mk (Array.mk []))))) []]
def l6r1:List AOper :=
  [oQ 3 (.load true 2 Z1) [],oQ 4 (.call 14 [Z3]) [0],oQ 5 (.un .not Z4) [1]]
def l6r2:List AOper :=
  [oQ 2 (.mv (.const (.string (ByteArray.mk (Array.mk []))))) []]
def l6r3a:List AOper :=
  [oQ 6 (.call 15 []) [],oQ 7 (.fld 0 Z1) [],oQ 8 (.load false 1 Z7) [1],oQ 9 (.idxA 1 Z6 Z8) [0,2],oQ 10 (.load false 1 Z9) [3],oQ 11 (.fld 1 Z1) [],oQ 12 (.load false 1 Z11) [5],oQ 13 (.call 16 [Z12]) [6,0]]
def l6r3b:List AOper :=
  [oQ 14 (.bin .add Z10 Z13) [4,7],oQ 2 (.mv Z14) [8,7,0,1,2,3,4,5,6,7,8]]
def l6r3:List AOper:=l6r3a ++ l6r3b
def l6:AFn :=
  (AFn.mk 15 1 (.seq (.reg l6r0) (.seq (.seq (.reg l6r1) (.cond (.tmp 5) (.seq (.reg l6r2) .ret) .skip)) (.seq (.draw l6r3) .ret))) [.tmp 2])
theorem l6_eq:lowFn Tryd.prog 6=some l6:=by kernel_rfl
def l7r0:List AOper :=
  [oQ 1 (.box Z0) [],oQ 2 (.alloc [.int .i64 0,.slice none 0 0]) []]
def l7r1:List AOper :=
  [oQ 3 (.alloc [.int .i64 0,.slice none 0 0]) []]
def l7r2:List AOper :=
  [oQ 4 (.fld 0 Z1) [],oQ 5 (.load false 1 Z4) [0],oQ 6 (.fld 0 Z3) [0,1],nQ (.store 1 Z6 Z5) [2,1,0,1]]
def l7r3:List AOper :=
  [oQ 7 (.fld 1 Z1) [],oQ 8 (.load false 1 Z7) [0],oQ 9 (.call 17 [Z8]) [1],oQ 10 (.fld 1 Z3) [0,1,2],nQ (.store 1 Z10 Z9) [3,2,2,0,1,2]]
def l7r4:List AOper :=
  [oQ 11 (.load true 2 Z3) [],nQ (.store 2 Z2 Z11) [0,0]]
def l7:AFn :=
  (AFn.mk 12 1 (.seq (.reg l7r0) (.seq (.reg l7r1) (.seq (.reg l7r2) (.seq (.reg l7r3) (.seq (.reg l7r4) .ret))))) [.cell 2 true 2])
theorem l7_eq:lowFn Tryd.prog 7=some l7:=by kernel_rfl
def l8r0:List AOper :=
  [oQ 1 (.box Z0) [],oQ 2 (.mv (.const (.string (ByteArray.mk (Array.mk []))))) []]
def l8r1:List AOper :=
  [oQ 3 (.load true 2 Z1) [],oQ 4 (.call 11 [Z3]) [0],oQ 5 (.un .not Z4) [1]]
def l8r2:List AOper :=
  [oQ 2 (.mv (.const (.string (ByteArray.mk (Array.mk []))))) []]
def l8r3a:List AOper :=
  [oQ 6 (.fld 0 Z1) [],oQ 7 (.load false 1 Z6) [0],oQ 8 (.idxP 2 8 (.global 0) Z7) [1],oQ 9 (.fld 0 Z8) [2],oQ 10 (.load false 1 Z9) [3],oQ 11 (.fld 1 Z1) [],oQ 12 (.load false 1 Z11) [5]]
def l8r3b:List AOper :=
  [oQ 13 (.call 18 [Z10,Z12]) [4,6],oQ 2 (.mv Z13) [7,7,0,1,2,3,4,5,6,7]]
def l8r3:List AOper:=l8r3a ++ l8r3b
def l8:AFn :=
  (AFn.mk 14 1 (.seq (.reg l8r0) (.seq (.seq (.reg l8r1) (.cond (.tmp 5) (.seq (.reg l8r2) .ret) .skip)) (.seq (.draw l8r3) .ret))) [.tmp 2])
theorem l8_eq:lowFn Tryd.prog 8=some l8:=by kernel_rfl
def l9r0:List AOper :=
  [oQ 2 (.box Z0) [],oQ 3 (.box Z1) [],oQ 4 (.mv (.const (.bool false))) []]
def l9r1:List AOper :=
  [oQ 5 (.fld 0 Z2) [],oQ 6 (.load false 1 Z5) [0],oQ 7 (.fld 0 Z3) [],oQ 8 (.load false 1 Z7) [2],oQ 9 (.bin .neq Z6 Z8) [1,3]]
def l9r2:List AOper :=
  [oQ 4 (.mv (.const (.bool false))) []]
def l9r3:List AOper :=
  [oQ 10 (.fld 1 Z2) [],oQ 11 (.load false 1 Z10) [0],oQ 12 (.fld 1 Z3) [],oQ 13 (.load false 1 Z12) [2],oQ 14 (.call 19 [Z11,Z13]) [1,3],oQ 15 (.un .not Z14) [4]]
def l9r4:List AOper :=
  [oQ 4 (.mv (.const (.bool false))) []]
def l9r5:List AOper :=
  [oQ 4 (.mv (.const (.bool true))) []]
def l9:AFn :=
  (AFn.mk 16 2 (.seq (.reg l9r0) (.seq (.seq (.reg l9r1) (.cond (.tmp 9) (.seq (.reg l9r2) .ret) .skip)) (.seq (.seq (.reg l9r3) (.cond (.tmp 15) (.seq (.reg l9r4) .ret) .skip)) (.seq (.reg l9r5) .ret)))) [.tmp 4])
theorem l9_eq:lowFn Tryd.prog 9=some l9:=by kernel_rfl
def l11r0:List AOper :=
  [oQ 1 (.box Z0) [],oQ 2 (.mv (.const (.bool false))) []]
def l11r1a:List AOper :=
  [oQ 5 (.fld 0 Z1) [],oQ 6 (.load false 1 Z5) [0],oQ 7 (.call 23 [Z6,.const (.int .i64 7)]) [1],oQ 8 (.un .not Z7) [2],oQ 9 (.mv Z8) [3,2],gQ 10 (.fld 1 Z1) (some (9,false)) [4],gQ 11 (.load false 1 Z10) (some (9,false)) [5,4],gQ 12 (.len Z11) (some (9,false)) [6,4],gQ 13 (.fld 0 Z1) (some (9,false)) [4],gQ 14 (.load false 1 Z13) (some (9,false)) [8,4],gQ 15 (.idxP 2 8 (.global 0) Z14) (some (9,false)) [9,4],gQ 16 (.fld 1 Z15) (some (9,false)) [10,4],gQ 17 (.load false 1 Z16) (some (9,false)) [11,4]]
def l11r1b:List AOper :=
  [gQ 18 (.bin .neq Z12 Z17) (some (9,false)) [7,12,4],oQ 19 (.pick Z9 (.const (.bool true)) Z18) [4,13]]
def l11r1:List AOper:=l11r1a ++ l11r1b
def l11r2:List AOper :=
  [oQ 2 (.mv (.const (.bool false))) []]
def l11r3:List AOper :=
  [oQ 20 (.fld 1 Z1) [],oQ 21 (.load false 1 Z20) [0],oQ 22 (.len Z21) [1],oQ 23 (.mv (.const (.int .i64 0))) []]
def l11r4:List AOper :=
  [oQ 24 (.bin .lss Z23 Z22) []]
def l11r5:List AOper :=
  [oQ 25 (.idxA 1 Z21 Z23) [],oQ 26 (.load false 1 Z25) [0],oQ 4 (.mv Z26) [1,0,1]]
def l11r6:List AOper :=
  [oQ 27 (.mv Z4) [],oQ 28 (.call 24 [Z27,.const (.int .i64 100)]) [0],oQ 29 (.un .not Z28) [1]]
def l11r7:List AOper :=
  [oQ 2 (.mv (.const (.bool false))) []]
def l11r8:List AOper :=
  [oQ 30 (.bin .add Z23 (.const (.int .i64 1))) [],oQ 23 (.mv Z30) [0]]
def l11r9:List AOper :=
  [oQ 2 (.mv (.const (.bool true))) []]
def l11:AFn :=
  (AFn.mk 31 1 (.seq (.reg l11r0) (.seq (.seq (.draw l11r1) (.cond (.tmp 19) (.seq (.reg l11r2) .ret) .skip)) (.seq (.seq (.reg l11r3) (.block 0 (.loop (.seq (.reg l11r4) (.seq (.cond (.tmp 24) .skip (.exit 0)) (.seq (.block 1 (.seq (.reg l11r5) (.seq (.reg l11r6) (.cond (.tmp 29) (.seq (.reg l11r7) .ret) .skip)))) (.reg l11r8))))))) (.seq (.reg l11r9) .ret)))) [.tmp 2])
theorem l11_eq:lowFn Tryd.prog 11=some l11:=by kernel_rfl
def l13r0:List AOper :=
  [oQ 4 (.mv (.const (.int .i64 0))) []]
def l13r1:List AOper :=
  [oQ 5 (.mv Z1) [],oQ 6 (.mv Z0) [],oQ 7 (.len Z6) [1],oQ 8 (.bin .sub Z5 Z7) [0,2],oQ 1 (.mv Z8) [3,0,1,2,3]]
def l13r2:List AOper :=
  [oQ 9 (.mv Z1) [],oQ 10 (.bin .lss Z9 (.const (.int .i64 0))) [0]]
def l13r3:List AOper :=
  [oQ 4 (.mv (.const (.int .i64 (-1)))) []]
def l13r4:List AOper :=
  [oQ 11 (.mv Z1) [],oQ 4 (.mv Z11) [0,0]]
def l13:AFn :=
  (AFn.mk 12 2 (.seq (.reg l13r0) (.seq (.reg l13r1) (.seq (.seq (.reg l13r2) (.cond (.tmp 10) (.seq (.reg l13r3) .ret) .skip)) (.seq (.reg l13r4) .ret)))) [.tmp 4])
theorem l13_eq:lowFn Tryd.prog 13=some l13:=by kernel_rfl
def l14r0:List AOper :=
  [oQ 1 (.box Z0) [],oQ 2 (.mv (.const (.bool false))) []]
def l14r1a:List AOper :=
  [oQ 3 (.fld 0 Z1) [],oQ 4 (.load false 1 Z3) [0],oQ 5 (.call 25 [Z4,.const (.int .i64 0),.const (.int .i64 7)]) [1],oQ 6 (.mv Z5) [2,2],gQ 7 (.fld 1 Z1) (some (6,true)) [3],gQ 8 (.load false 1 Z7) (some (6,true)) [4,3],gQ 9 (.len Z8) (some (6,true)) [5,3],gQ 10 (.fld 0 Z1) (some (6,true)) [3],gQ 11 (.load false 1 Z10) (some (6,true)) [7,3],gQ 12 (.call 26 [Z11]) (some (6,true)) [8,3,3]]
def l14r1b:List AOper :=
  [gQ 13 (.bin .eql Z9 Z12) (some (6,true)) [6,9,3],oQ 14 (.pick Z6 Z13 (.const (.bool false))) [3,10],oQ 15 (.mv Z14) [11,9],gQ 16 (.fld 1 Z1) (some (15,true)) [12],gQ 17 (.load false 1 Z16) (some (15,true)) [13,12],gQ 18 (.call 27 [Z17,.const (.int .i64 (-100)),.const (.int .i64 100)]) (some (15,true)) [14,12,12],oQ 19 (.pick Z15 Z18 (.const (.bool false))) [12,15],oQ 2 (.mv Z19) [16,15,0,1,2,3,4,5,6,7,8,9,10,11,12,13,14,15,16]]
def l14r1:List AOper:=l14r1a ++ l14r1b
def l14:AFn :=
  (AFn.mk 20 1 (.seq (.reg l14r0) (.seq (.draw l14r1) .ret)) [.tmp 2])
theorem l14_eq:lowFn Tryd.prog 14=some l14:=by kernel_rfl
def l15r0:List AOper :=
  [oQ 0 (.mv (.const (.slice none 0 0))) []]
def l15r1:List AOper :=
  [oQ 1 (.bslice 1 [.string (ByteArray.mk (Array.mk []))] [(0,.const (.string (ByteArray.mk (Array.mk [(115:UInt8),(105:UInt8),(122:UInt8),(101:UInt8)])))),(1,.const (.string (ByteArray.mk (Array.mk [(118:UInt8),(105:UInt8),(101:UInt8),(119:UInt8)])))),(2,.const (.string (ByteArray.mk (Array.mk [(112:UInt8),(97:UInt8),(114:UInt8),(116:UInt8)])))),(3,.const (.string (ByteArray.mk (Array.mk [(102:UInt8),(108:UInt8),(105:UInt8),(112:UInt8)])))),(4,.const (.string (ByteArray.mk (Array.mk [(102:UInt8),(105:UInt8),(108:UInt8),(108:UInt8)])))),(5,.const (.string (ByteArray.mk (Array.mk [(99:UInt8),(111:UInt8),(112:UInt8),(121:UInt8)])))),(6,.const (.string (ByteArray.mk (Array.mk [(108:UInt8),(111:UInt8),(97:UInt8),(100:UInt8)])))),(7,.const (.string (ByteArray.mk (Array.mk [(102:UInt8),(114:UInt8),(101:UInt8),(101:UInt8)]))))] 8) [],oQ 0 (.mv Z1) [0,0]]
def l15:AFn :=
  (AFn.mk 2 0 (.seq (.reg l15r0) (.seq (.reg l15r1) .ret)) [.tmp 0])
theorem l15_eq:lowFn Tryd.prog 15=some l15:=by kernel_rfl
def l16r0:List AOper :=
  [oQ 2 (.mv (.const (.string (ByteArray.mk (Array.mk []))))) []]
def l16r1:List AOper :=
  [oQ 3 (.mv (.const (.string (ByteArray.mk (Array.mk []))))) []]
def l16r2:List AOper :=
  [oQ 4 (.mv (.const (.int .i64 0))) []]
def l16r3:List AOper :=
  [oQ 5 (.mv Z4) [],oQ 6 (.mv Z0) [],oQ 7 (.len Z6) [1],oQ 8 (.bin .lss Z5 Z7) [0,2]]
def l16r4:List AOper :=
  [oQ 11 (.mv Z3) [],oQ 12 (.bin .add Z11 (.const (.string (ByteArray.mk (Array.mk [(32:UInt8)]))))) [0],oQ 13 (.mv Z0) [],oQ 14 (.mv Z4) [],oQ 15 (.idxA 1 Z13 Z14) [2,3],oQ 16 (.load false 1 Z15) [4],oQ 17 (.call 28 [Z16]) [5],oQ 18 (.bin .add Z12 Z17) [1,6],oQ 3 (.mv Z18) [7,6,0,1,2,3,4,5,6,7]]
def l16r5:List AOper :=
  [oQ 9 (.mv Z4) [],oQ 10 (.bin .add Z9 (.const (.int .i64 1))) [0],oQ 4 (.mv Z10) [1,0,1]]
def l16r6:List AOper :=
  [oQ 19 (.mv Z3) [],oQ 2 (.mv Z19) [0,0]]
def l16:AFn :=
  (AFn.mk 20 1 (.seq (.reg l16r0) (.seq (.reg l16r1) (.seq (.seq (.reg l16r2) (.block 0 (.loop (.seq (.seq (.reg l16r3) (.cond (.tmp 8) .skip (.exit 0))) (.seq (.block 1 (.reg l16r4)) (.reg l16r5)))))) (.seq (.reg l16r6) .ret)))) [.tmp 2])
theorem l16_eq:lowFn Tryd.prog 16=some l16:=by kernel_rfl
def l17r0:List AOper :=
  [oQ 2 (.mv (.const (.slice none 0 0))) []]
def l17r1:List AOper :=
  [oQ 5 (.mv Z0) [],oQ 6 (.len Z5) [0],oQ 7 (.mkslice 1 [.int .i64 0] Z6 Z6) [1,1],oQ 3 (.mv Z7) [2,0,1,2]]
def l17r2:List AOper :=
  [oQ 4 (.mv (.const (.int .i64 0))) []]
def l17r3:List AOper :=
  [oQ 8 (.mv Z4) [],oQ 9 (.mv Z0) [],oQ 10 (.len Z9) [1],oQ 11 (.bin .lss Z8 Z10) [0,2]]
def l17r4:List AOper :=
  [oQ 14 (.mv Z3) [],oQ 15 (.mv Z4) [],oQ 16 (.mv Z0) [],oQ 17 (.mv Z4) [],oQ 18 (.idxA 1 Z16 Z17) [2,3],oQ 19 (.load false 1 Z18) [4],oQ 20 (.idxA 1 Z14 Z15) [0,1,0,1,2,3,4,5],nQ (.store 1 Z20 Z19) [6,5,0,1,2,3,4,5]]
def l17r5:List AOper :=
  [oQ 12 (.mv Z4) [],oQ 13 (.bin .add Z12 (.const (.int .i64 1))) [0],oQ 4 (.mv Z13) [1,0,1]]
def l17r6:List AOper :=
  [oQ 21 (.mv Z3) [],oQ 2 (.mv Z21) [0,0]]
def l17:AFn :=
  (AFn.mk 22 1 (.seq (.reg l17r0) (.seq (.reg l17r1) (.seq (.seq (.reg l17r2) (.block 0 (.loop (.seq (.seq (.reg l17r3) (.cond (.tmp 11) .skip (.exit 0))) (.seq (.block 1 (.reg l17r4)) (.reg l17r5)))))) (.seq (.reg l17r6) .ret)))) [.tmp 2])
theorem l17_eq:lowFn Tryd.prog 17=some l17:=by kernel_rfl
def l18r0:List AOper :=
  [oQ 4 (.mv (.const (.string (ByteArray.mk (Array.mk []))))) []]
def l18r1:List AOper :=
  [oQ 7 (.mv Z1) [],oQ 8 (.len Z7) [0],oQ 9 (.mv (.const (.int .i64 0))) []]
def l18r2:List AOper :=
  [oQ 10 (.bin .lss Z9 Z8) []]
def l18r3:List AOper :=
  [oQ 11 (.idxA 1 Z7 Z9) [],oQ 12 (.load false 1 Z11) [0],oQ 6 (.mv Z12) [1,0,1]]
def l18r4:List AOper :=
  [oQ 13 (.mv Z0) [],oQ 14 (.mv Z6) [],oQ 15 (.call 29 [Z14]) [1],oQ 16 (.bin .add (.const (.string (ByteArray.mk (Array.mk [(32:UInt8)])))) Z15) [2],oQ 17 (.bin .add Z13 Z16) [0,3],oQ 0 (.mv Z17) [4,2,0,1,2,3,4]]
def l18r5:List AOper :=
  [oQ 18 (.bin .add Z9 (.const (.int .i64 1))) [],oQ 9 (.mv Z18) [0]]
def l18r6:List AOper :=
  [oQ 19 (.mv Z0) [],oQ 4 (.mv Z19) [0,0]]
def l18:AFn :=
  (AFn.mk 20 2 (.seq (.reg l18r0) (.seq (.seq (.reg l18r1) (.block 0 (.loop (.seq (.reg l18r2) (.seq (.cond (.tmp 10) .skip (.exit 0)) (.seq (.block 1 (.seq (.reg l18r3) (.reg l18r4))) (.reg l18r5))))))) (.seq (.reg l18r6) .ret))) [.tmp 4])
theorem l18_eq:lowFn Tryd.prog 18=some l18:=by kernel_rfl
def l19r0:List AOper :=
  [oQ 4 (.mv (.const (.bool false))) []]
def l19r1:List AOper :=
  [oQ 6 (.mv Z0) [],oQ 7 (.len Z6) [0],oQ 8 (.mv Z1) [],oQ 9 (.len Z8) [2],oQ 10 (.bin .neq Z7 Z9) [1,3]]
def l19r2:List AOper :=
  [oQ 4 (.mv (.const (.bool false))) []]
def l19r3:List AOper :=
  [oQ 5 (.mv (.const (.int .i64 0))) []]
def l19r4:List AOper :=
  [oQ 11 (.mv Z5) [],oQ 12 (.mv Z0) [],oQ 13 (.len Z12) [1],oQ 14 (.bin .lss Z11 Z13) [0,2]]
def l19r5a:List AOper :=
  [oQ 17 (.mv Z0) [],oQ 18 (.mv Z5) [],oQ 19 (.idxA 1 Z17 Z18) [0,1],oQ 20 (.load false 1 Z19) [2],oQ 21 (.mv Z1) [],oQ 22 (.mv Z5) [],oQ 23 (.idxA 1 Z21 Z22) [4,5],oQ 24 (.load false 1 Z23) [6]]
def l19r5b:List AOper :=
  [oQ 25 (.bin .neq Z20 Z24) [3,7]]
def l19r5:List AOper:=l19r5a ++ l19r5b
def l19r6:List AOper :=
  [oQ 4 (.mv (.const (.bool false))) []]
def l19r7:List AOper :=
  [oQ 15 (.mv Z5) [],oQ 16 (.bin .add Z15 (.const (.int .i64 1))) [0],oQ 5 (.mv Z16) [1,0,1]]
def l19r8:List AOper :=
  [oQ 4 (.mv (.const (.bool true))) []]
def l19:AFn :=
  (AFn.mk 26 2 (.seq (.reg l19r0) (.seq (.seq (.reg l19r1) (.cond (.tmp 10) (.seq (.reg l19r2) .ret) .skip)) (.seq (.seq (.reg l19r3) (.block 0 (.loop (.seq (.seq (.reg l19r4) (.cond (.tmp 14) .skip (.exit 0))) (.seq (.block 1 (.seq (.draw l19r5) (.cond (.tmp 25) (.seq (.reg l19r6) .ret) .skip))) (.reg l19r7)))))) (.seq (.reg l19r8) .ret)))) [.tmp 4])
theorem l19_eq:lowFn Tryd.prog 19=some l19:=by kernel_rfl
def l23r0:List AOper :=
  [oQ 4 (.mv (.const (.bool false))) []]
def l23r1:List AOper :=
  [oQ 5 (.mv Z0) [],oQ 6 (.bin .leq (.const (.int .i64 0)) Z5) [0],oQ 7 (.mv Z6) [1],gQ 8 (.mv Z0) (some (7,true)) [2],gQ 9 (.mv Z1) (some (7,true)) [2],gQ 10 (.bin .leq Z8 Z9) (some (7,true)) [3,4,2],oQ 11 (.pick Z7 Z10 (.const (.bool false))) [2,5],oQ 4 (.mv Z11) [6,2,0,1,2,3,4,5,6]]
def l23:AFn :=
  (AFn.mk 12 2 (.seq (.reg l23r0) (.seq (.reg l23r1) .ret)) [.tmp 4])
theorem l23_eq:lowFn Tryd.prog 23=some l23:=by kernel_rfl
def l24r0:List AOper :=
  [oQ 4 (.mv (.const (.bool false))) []]
def l24r1:List AOper :=
  [oQ 5 (.mv Z1) [],oQ 6 (.un .neg Z5) [0],oQ 7 (.mv Z0) [],oQ 8 (.bin .leq Z6 Z7) [1,2],oQ 9 (.mv Z8) [3],gQ 10 (.mv Z0) (some (9,true)) [4],gQ 11 (.mv Z1) (some (9,true)) [4],gQ 12 (.bin .leq Z10 Z11) (some (9,true)) [5,6,4],oQ 13 (.pick Z9 Z12 (.const (.bool false))) [4,7],oQ 4 (.mv Z13) [8,4,0,1,2,3,4,5,6,7,8]]
def l24:AFn :=
  (AFn.mk 14 2 (.seq (.reg l24r0) (.seq (.reg l24r1) .ret)) [.tmp 4])
theorem l24_eq:lowFn Tryd.prog 24=some l24:=by kernel_rfl
def l25r0:List AOper :=
  [oQ 6 (.mv (.const (.bool false))) []]
def l25r1:List AOper :=
  [oQ 7 (.mv Z1) [],oQ 8 (.mv Z0) [],oQ 9 (.bin .leq Z7 Z8) [0,1],oQ 10 (.mv Z9) [2],gQ 11 (.mv Z0) (some (10,true)) [3],gQ 12 (.mv Z2) (some (10,true)) [3],gQ 13 (.bin .leq Z11 Z12) (some (10,true)) [4,5,3],oQ 14 (.pick Z10 Z13 (.const (.bool false))) [3,6],oQ 6 (.mv Z14) [7,3,0,1,2,3,4,5,6,7]]
def l25:AFn :=
  (AFn.mk 15 3 (.seq (.reg l25r0) (.seq (.reg l25r1) .ret)) [.tmp 6])
theorem l25_eq:lowFn Tryd.prog 25=some l25:=by kernel_rfl
def l26r0:List AOper :=
  [oQ 2 (.mv (.const (.int .i64 0))) []]
def l26r1:List AOper :=
  [oQ 3 (.bslice 1 [.int .i64 0] [(0,.const (.int .i64 1)),(1,.const (.int .i64 3)),(2,.const (.int .i64 4)),(3,.const (.int .i64 1)),(4,.const (.int .i64 2)),(5,.const (.int .i64 2)),(6,.const (.int .i64 1)),(7,.const (.int .i64 1))] 8) [],oQ 4 (.mv Z0) [],oQ 5 (.idxA 1 Z3 Z4) [0,1],oQ 6 (.load false 1 Z5) [2],oQ 2 (.mv Z6) [3,0,1,2,3]]
def l26:AFn :=
  (AFn.mk 7 1 (.seq (.reg l26r0) (.seq (.reg l26r1) .ret)) [.tmp 2])
theorem l26_eq:lowFn Tryd.prog 26=some l26:=by kernel_rfl
def l27r0:List AOper :=
  [oQ 6 (.mv (.const (.bool false))) []]
def l27r1:List AOper :=
  [oQ 7 (.mv (.const (.int .i64 0))) []]
def l27r2:List AOper :=
  [oQ 8 (.mv Z7) [],oQ 9 (.mv Z0) [],oQ 10 (.len Z9) [1],oQ 11 (.bin .lss Z8 Z10) [0,2]]
def l27r3:List AOper :=
  [oQ 14 (.mv Z0) [],oQ 15 (.mv Z7) [],oQ 16 (.idxA 1 Z14 Z15) [0,1],oQ 17 (.load false 1 Z16) [2],oQ 18 (.mv Z1) [],oQ 19 (.mv Z2) [],oQ 20 (.call 25 [Z17,Z18,Z19]) [3,4,5],oQ 21 (.un .not Z20) [6]]
def l27r4:List AOper :=
  [oQ 6 (.mv (.const (.bool false))) []]
def l27r5:List AOper :=
  [oQ 12 (.mv Z7) [],oQ 13 (.bin .add Z12 (.const (.int .i64 1))) [0],oQ 7 (.mv Z13) [1,0,1]]
def l27r6:List AOper :=
  [oQ 6 (.mv (.const (.bool true))) []]
def l27:AFn :=
  (AFn.mk 22 3 (.seq (.reg l27r0) (.seq (.seq (.reg l27r1) (.block 0 (.loop (.seq (.seq (.reg l27r2) (.cond (.tmp 11) .skip (.exit 0))) (.seq (.block 1 (.seq (.reg l27r3) (.cond (.tmp 21) (.seq (.reg l27r4) .ret) .skip))) (.reg l27r5)))))) (.seq (.reg l27r6) .ret))) [.tmp 6])
theorem l27_eq:lowFn Tryd.prog 27=some l27:=by kernel_rfl
def l28r0:List AOper :=
  [oQ 2 (.mv (.const (.string (ByteArray.mk (Array.mk []))))) []]
def l28r1:List AOper :=
  [oQ 3 (.mv Z0) [],oQ 4 (.bin .lss Z3 (.const (.int .i64 0))) [0],oQ 5 (.mv Z4) [1],gQ 6 (.mv Z0) (some (5,true)) [2],gQ 7 (.mv Z0) (some (5,true)) [2],gQ 8 (.un .neg Z7) (some (5,true)) [4,2],gQ 9 (.bin .eql Z6 Z8) (some (5,true)) [3,5,2],oQ 10 (.pick Z5 Z9 (.const (.bool false))) [2,6]]
def l28r2:List AOper :=
  [oQ 2 (.mv (.const (.string (ByteArray.mk (Array.mk [(45:UInt8),(57:UInt8),(50:UInt8),(50:UInt8),(51:UInt8),(51:UInt8),(55:UInt8),(50:UInt8),(48:UInt8),(51:UInt8),(54:UInt8),(56:UInt8),(53:UInt8),(52:UInt8),(55:UInt8),(55:UInt8),(53:UInt8),(56:UInt8),(48:UInt8),(56:UInt8)]))))) []]
def l28r3:List AOper :=
  [oQ 11 (.mv Z0) [],oQ 12 (.bin .lss Z11 (.const (.int .i64 0))) [0]]
def l28r4:List AOper :=
  [oQ 13 (.mv Z0) [],oQ 14 (.un .neg Z13) [0],oQ 15 (.call 28 [Z14]) [1],oQ 16 (.bin .add (.const (.string (ByteArray.mk (Array.mk [(45:UInt8)])))) Z15) [2],oQ 2 (.mv Z16) [3,2,0,1,2,3]]
def l28r5:List AOper :=
  [oQ 17 (.mv Z0) [],oQ 18 (.bin .lss Z17 (.const (.int .i64 10))) [0]]
def l28r6:List AOper :=
  [oQ 19 (.mv Z0) [],oQ 20 (.mv Z0) [],oQ 21 (.bin .add Z20 (.const (.int .i64 1))) [1],oQ 22 (.sliceS (.const (.string (ByteArray.mk (Array.mk [(48:UInt8),(49:UInt8),(50:UInt8),(51:UInt8),(52:UInt8),(53:UInt8),(54:UInt8),(55:UInt8),(56:UInt8),(57:UInt8)])))) (some Z19) (some Z21)) [0,2],oQ 2 (.mv Z22) [3,0,1,2,3]]
def l28r7:List AOper :=
  [oQ 23 (.mv Z0) [],oQ 24 (.bin .quo Z23 (.const (.int .i64 10))) [0],oQ 25 (.call 28 [Z24]) [1],oQ 26 (.mv Z0) [],oQ 27 (.bin .rem Z26 (.const (.int .i64 10))) [3],oQ 28 (.call 28 [Z27]) [4,2],oQ 29 (.bin .add Z25 Z28) [2,5],oQ 2 (.mv Z29) [6,5,0,1,2,3,4,5,6]]
def l28:AFn :=
  (AFn.mk 30 1 (.seq (.reg l28r0) (.seq (.seq (.reg l28r1) (.cond (.tmp 10) (.seq (.reg l28r2) .ret) .skip)) (.seq (.seq (.reg l28r3) (.cond (.tmp 12) (.seq (.reg l28r4) .ret) .skip)) (.seq (.seq (.reg l28r5) (.cond (.tmp 18) (.seq (.reg l28r6) .ret) .skip)) (.seq (.reg l28r7) .ret))))) [.tmp 2])
theorem l28_eq:lowFn Tryd.prog 28=some l28:=by kernel_rfl
end Go.Proofs.YtfccepgibbdfaaaDoor
