import Derived.Test.YtjnlcbjehhpjiaaCVwR
import Derived.Test.YtjnlcbjehhpjiaaProg
import Derived.KernelRfl
set_option maxRecDepth 100000
namespace Go.Proofs.Ytjnlcbjehhpjiaa
open Vw Go
def l9r0 : List AOper :=
  [AOper.mk (some 1) (AOp.box (Operand.tmp 0)) none [],
          AOper.mk (some 2) (AOp.mv (Operand.const (Value.bool false))) none []]
def l9r1 : List AOper :=
  [AOper.mk (some 3) (AOp.mv (Operand.const (Value.int IntKind.i64 1048576))) none []]
def l9r2 : List AOper :=
  [AOper.mk (some 9) (AOp.load true 3 (Operand.tmp 1)) none [],
              AOper.mk (some 10) (AOp.mv (Operand.tmp 3)) none [],
              AOper.mk (some 11) (AOp.call 22 [Operand.tmp 9, Operand.tmp 10]) none [0, 1],
              AOper.mk (some 3) (AOp.mv (Operand.tmp 11)) none [2, 2, 0, 1, 2]]
def l9r3 : List AOper :=
  [AOper.mk (some 12) (AOp.mv (Operand.tmp 3)) none [],
                  AOper.mk (some 13)
                    (AOp.bin BinOp.lss (Operand.tmp 12) (Operand.const (Value.int IntKind.i64 0))) none
                    [0]]
def l9r4 : List AOper :=
  [AOper.mk (some 2) (AOp.mv (Operand.const (Value.bool true))) none []]
def l9r5 : List AOper :=
  [AOper.mk (some 15) (AOp.load true 3 (Operand.tmp 1)) none [],
                  AOper.mk (some 16) (AOp.call 24 [Operand.tmp 15]) none [0],
                  AOper.mk (some 17) (AOp.call 36 [Operand.tmp 16]) none [1, 1],
                  AOper.mk (some 14) (AOp.mv (Operand.tmp 17)) none [2],
                  AOper.mk (some 18) (AOp.extract (Operand.tmp 14) 0) none [3],
                  AOper.mk (some 19) (AOp.extract (Operand.tmp 14) 1) none [3],
                  AOper.mk (some 4) (AOp.mv (Operand.tmp 18)) none [4, 2, 0, 1, 2, 3, 4],
                  AOper.mk (some 5) (AOp.mv (Operand.tmp 19)) none [5, 6, 0, 1, 2, 3, 4, 5, 6]]
def l9r6 : List AOper :=
  [AOper.mk (some 20) (AOp.load true 3 (Operand.tmp 1)) none [],
                    AOper.mk (some 21) (AOp.call 24 [Operand.tmp 20]) none [0],
                    AOper.mk (some 6)
                      (AOp.alloc [Value.int IntKind.i64 0, Value.slice none 0 0, Value.slice none 0 0]) none
                      [],
                    AOper.mk none (AOp.store 3 (Operand.tmp 6) (Operand.tmp 21)) none [2, 1, 1, 0, 1, 2]]
def l9r7 : List AOper :=
  [AOper.mk (some 23) (AOp.load true 3 (Operand.tmp 6)) none [],
                      AOper.mk (some 24) (AOp.call 37 [Operand.tmp 23]) none [0],
                      AOper.mk (some 22) (AOp.mv (Operand.tmp 24)) none [1],
                      AOper.mk (some 25) (AOp.extract (Operand.tmp 22) 0) none [2],
                      AOper.mk (some 26) (AOp.extract (Operand.tmp 22) 1) none [2],
                      AOper.mk (some 7) (AOp.mv (Operand.tmp 25)) none [3, 1, 0, 1, 2, 3],
                      AOper.mk (some 8) (AOp.mv (Operand.tmp 26)) none [4, 5, 0, 1, 2, 3, 4, 5]]
def l9r8 : List AOper :=
  [AOper.mk (some 27) (AOp.mv (Operand.tmp 7)) none [],
                          AOper.mk (some 28) (AOp.mv (Operand.tmp 4)) none [],
                          AOper.mk (some 29) (AOp.bin BinOp.neq (Operand.tmp 27) (Operand.tmp 28)) none [0, 1],
                          AOper.mk (some 30) (AOp.mv (Operand.tmp 29)) none [2],
                          AOper.mk (some 31) (AOp.mv (Operand.tmp 8)) (some (30, false)) [3],
                          AOper.mk (some 32) (AOp.mv (Operand.tmp 5)) (some (30, false)) [3],
                          AOper.mk (some 33) (AOp.bin BinOp.neq (Operand.tmp 31) (Operand.tmp 32)) (some (30, false))
                            [4, 5, 3],
                          AOper.mk (some 34)
                            (AOp.pick (Operand.tmp 30) (Operand.const (Value.bool true)) (Operand.tmp 33)) none [3, 6]]
def l9r9 : List AOper :=
  [AOper.mk (some 2) (AOp.mv (Operand.const (Value.bool false))) none []]
def l9r10a : List AOper :=
  [AOper.mk (some 35) (AOp.load true 3 (Operand.tmp 6)) none [], AOper.mk (some 36) (AOp.load true 3 (Operand.tmp 1)) none [], AOper.mk (some 37) (AOp.call 24 [Operand.tmp 36]) none [1]]
def l9r10b : List AOper :=
  [AOper.mk (some 38) (AOp.call 26 [Operand.tmp 35, Operand.tmp 37]) none [0, 2, 2], AOper.mk (some 39) (AOp.un UnOp.not (Operand.tmp 38)) none [3]]
def l9r10 : List AOper := l9r10a ++ l9r10b
def l9r11 : List AOper :=
  [AOper.mk (some 2) (AOp.mv (Operand.const (Value.bool false))) none []]
def l9r12 : List AOper :=
  [AOper.mk (some 2) (AOp.mv (Operand.const (Value.bool true))) none []]
def l9 : AFn :=
  (AFn.mk 40 1
    (ACode.seq
      (ACode.reg l9r0)
      (ACode.seq
        (ACode.reg l9r1)
        (ACode.seq
          (ACode.reg l9r2)
          (ACode.seq
            (ACode.seq
              (ACode.reg l9r3)
              (ACode.cond (Operand.tmp 13)
                (ACode.seq (ACode.reg l9r4) ACode.ret)
                ACode.skip))
            (ACode.seq
              (ACode.reg l9r5)
              (ACode.seq
                (ACode.reg l9r6)
                (ACode.seq
                  (ACode.reg l9r7)
                  (ACode.seq
                    (ACode.seq
                      (ACode.reg l9r8)
                      (ACode.cond (Operand.tmp 34)
                        (ACode.seq (ACode.reg l9r9)
                          ACode.ret)
                        ACode.skip))
                    (ACode.seq
                      (ACode.seq
                        (ACode.draw l9r10)
                        (ACode.cond (Operand.tmp 39)
                          (ACode.seq (ACode.reg l9r11)
                            ACode.ret)
                          ACode.skip))
                      (ACode.seq (ACode.reg l9r12)
                        ACode.ret))))))))))
    [ARes.tmp 2])
theorem l9_eq : lowFn Try.prog 9 = some l9 := by kernel_rfl
def l22r0 : List AOper :=
  [AOper.mk (some 2) (AOp.box (Operand.tmp 0)) none [],
          AOper.mk (some 4) (AOp.mv (Operand.const (Value.int IntKind.i64 0))) none []]
def l22r1 : List AOper :=
  [AOper.mk (some 5) (AOp.fld 1 (Operand.tmp 2)) none [],
            AOper.mk (some 6) (AOp.load false 1 (Operand.tmp 5)) none [0],
            AOper.mk (some 7) (AOp.mv (Operand.tmp 1)) none [],
            AOper.mk (some 8) (AOp.call 51 [Operand.tmp 6, Operand.tmp 7]) none [1, 2],
            AOper.mk (some 1) (AOp.mv (Operand.tmp 8)) none [3, 3, 0, 1, 2, 3]]
def l22r2 : List AOper :=
  [AOper.mk (some 9) (AOp.mv (Operand.tmp 1)) none [],
                AOper.mk (some 10)
                  (AOp.bin BinOp.lss (Operand.tmp 9) (Operand.const (Value.int IntKind.i64 0))) none [0]]
def l22r3 : List AOper :=
  [AOper.mk (some 4) (AOp.mv (Operand.const (Value.int IntKind.i64 (-1)))) none []]
def l22r4 : List AOper :=
  [AOper.mk (some 11) (AOp.fld 2 (Operand.tmp 2)) none [],
                AOper.mk (some 12) (AOp.load false 1 (Operand.tmp 11)) none [0],
                AOper.mk (some 13) (AOp.mv (Operand.tmp 1)) none [],
                AOper.mk (some 14) (AOp.call 51 [Operand.tmp 12, Operand.tmp 13]) none [1, 2],
                AOper.mk (some 1) (AOp.mv (Operand.tmp 14)) none [3, 3, 0, 1, 2, 3]]
def l22r5 : List AOper :=
  [AOper.mk (some 15) (AOp.mv (Operand.tmp 1)) none [],
                    AOper.mk (some 16)
                      (AOp.bin BinOp.lss (Operand.tmp 15) (Operand.const (Value.int IntKind.i64 0))) none
                      [0]]
def l22r6 : List AOper :=
  [AOper.mk (some 4) (AOp.mv (Operand.const (Value.int IntKind.i64 (-1)))) none []]
def l22r7 : List AOper :=
  [AOper.mk (some 17) (AOp.mv (Operand.tmp 1)) none [],
                    AOper.mk (some 4) (AOp.mv (Operand.tmp 17)) none [0, 0]]
def l22 : AFn :=
  (AFn.mk 18 2
    (ACode.seq
      (ACode.reg l22r0)
      (ACode.seq
        (ACode.reg l22r1)
        (ACode.seq
          (ACode.seq
            (ACode.reg l22r2)
            (ACode.cond (Operand.tmp 10)
              (ACode.seq
                (ACode.reg l22r3)
                ACode.ret)
              ACode.skip))
          (ACode.seq
            (ACode.reg l22r4)
            (ACode.seq
              (ACode.seq
                (ACode.reg l22r5)
                (ACode.cond (Operand.tmp 16)
                  (ACode.seq
                    (ACode.reg l22r6)
                    ACode.ret)
                  ACode.skip))
              (ACode.seq
                (ACode.reg l22r7)
                ACode.ret))))))
    [ARes.tmp 4])
theorem l22_eq : lowFn Try.prog 22 = some l22 := by kernel_rfl
def l24r0 : List AOper :=
  [AOper.mk (some 1) (AOp.box (Operand.tmp 0)) none [],
          AOper.mk (some 2)
            (AOp.alloc [Value.int IntKind.i64 0, Value.slice none 0 0, Value.slice none 0 0]) none []]
def l24r1 : List AOper :=
  [AOper.mk (some 3)
              (AOp.alloc [Value.int IntKind.i64 0, Value.slice none 0 0, Value.slice none 0 0]) none []]
def l24r2 : List AOper :=
  [AOper.mk (some 4) (AOp.fld 0 (Operand.tmp 1)) none [],
              AOper.mk (some 5) (AOp.load false 1 (Operand.tmp 4)) none [0],
              AOper.mk (some 6) (AOp.fld 0 (Operand.tmp 3)) none [0, 1],
              AOper.mk none (AOp.store 1 (Operand.tmp 6) (Operand.tmp 5)) none [2, 1, 0, 1]]
def l24r3 : List AOper :=
  [AOper.mk (some 7) (AOp.fld 1 (Operand.tmp 1)) none [],
                AOper.mk (some 8) (AOp.load false 1 (Operand.tmp 7)) none [0],
                AOper.mk (some 9) (AOp.call 28 [Operand.tmp 8]) none [1],
                AOper.mk (some 10) (AOp.fld 1 (Operand.tmp 3)) none [0, 1, 2],
                AOper.mk none (AOp.store 1 (Operand.tmp 10) (Operand.tmp 9)) none [3, 2, 2, 0, 1, 2]]
def l24r4 : List AOper :=
  [AOper.mk (some 11) (AOp.fld 2 (Operand.tmp 1)) none [],
                  AOper.mk (some 12) (AOp.load false 1 (Operand.tmp 11)) none [0],
                  AOper.mk (some 13) (AOp.call 28 [Operand.tmp 12]) none [1],
                  AOper.mk (some 14) (AOp.fld 2 (Operand.tmp 3)) none [0, 1, 2],
                  AOper.mk none (AOp.store 1 (Operand.tmp 14) (Operand.tmp 13)) none [3, 2, 2, 0, 1, 2]]
def l24r5 : List AOper :=
  [AOper.mk (some 15) (AOp.load true 3 (Operand.tmp 3)) none [],
                    AOper.mk none (AOp.store 3 (Operand.tmp 2) (Operand.tmp 15)) none [0, 0]]
def l24 : AFn :=
  (AFn.mk 16 1
    (ACode.seq
      (ACode.reg l24r0)
      (ACode.seq
        (ACode.reg l24r1)
        (ACode.seq
          (ACode.reg l24r2)
          (ACode.seq
            (ACode.reg l24r3)
            (ACode.seq
              (ACode.reg l24r4)
              (ACode.seq
                (ACode.reg l24r5)
                ACode.ret))))))
    [ARes.cell 2 true 3])
theorem l24_eq : lowFn Try.prog 24 = some l24 := by kernel_rfl
def l25r0 : List AOper :=
  [AOper.mk (some 1) (AOp.box (Operand.tmp 0)) none [],
          AOper.mk (some 2) (AOp.mv (Operand.const (Value.bool false))) none []]
def l25r1 : List AOper :=
  [AOper.mk (some 5) (AOp.fld 1 (Operand.tmp 1)) none [],
              AOper.mk (some 6) (AOp.load false 1 (Operand.tmp 5)) none [0],
              AOper.mk (some 7) (AOp.call 53 [Operand.tmp 6]) none [1],
              AOper.mk (some 8) (AOp.un UnOp.not (Operand.tmp 7)) none [2],
              AOper.mk (some 9) (AOp.mv (Operand.tmp 8)) none [3, 2],
              AOper.mk (some 10) (AOp.fld 2 (Operand.tmp 1)) (some (9, false)) [4],
              AOper.mk (some 11) (AOp.load false 1 (Operand.tmp 10)) (some (9, false)) [5, 4],
              AOper.mk (some 12) (AOp.fld 1 (Operand.tmp 1)) (some (9, false)) [4],
              AOper.mk (some 13) (AOp.load false 1 (Operand.tmp 12)) (some (9, false)) [7, 4],
              AOper.mk (some 14) (AOp.len (Operand.tmp 13)) (some (9, false)) [8, 4],
              AOper.mk (some 15) (AOp.call 54 [Operand.tmp 11, Operand.tmp 14]) (some (9, false)) [6, 9, 4, 4],
              AOper.mk (some 16) (AOp.un UnOp.not (Operand.tmp 15)) (some (9, false)) [10, 4],
              AOper.mk (some 17) (AOp.pick (Operand.tmp 9) (Operand.const (Value.bool true)) (Operand.tmp 16)) none
                [4, 11],
              AOper.mk (some 18) (AOp.mv (Operand.tmp 17)) none [12, 10],
              AOper.mk (some 19) (AOp.fld 0 (Operand.tmp 1)) (some (18, false)) [13],
              AOper.mk (some 20) (AOp.load false 1 (Operand.tmp 19)) (some (18, false)) [14, 13],
              AOper.mk (some 21) (AOp.call 55 [Operand.tmp 20, Operand.const (Value.int IntKind.i64 60)])
                (some (18, false)) [15, 13, 13],
              AOper.mk (some 22) (AOp.un UnOp.not (Operand.tmp 21)) (some (18, false)) [16, 13],
              AOper.mk (some 23) (AOp.pick (Operand.tmp 18) (Operand.const (Value.bool true)) (Operand.tmp 22)) none
                [13, 17]]
def l25r2 : List AOper :=
  [AOper.mk (some 2) (AOp.mv (Operand.const (Value.bool false))) none []]
def l25r3 : List AOper :=
  [AOper.mk (some 25) (AOp.load true 3 (Operand.tmp 1)) none [],
              AOper.mk (some 26) (AOp.call 56 [Operand.tmp 25]) none [0],
              AOper.mk (some 24) (AOp.mv (Operand.tmp 26)) none [1],
              AOper.mk (some 27) (AOp.extract (Operand.tmp 24) 0) none [2],
              AOper.mk (some 28) (AOp.extract (Operand.tmp 24) 1) none [2],
              AOper.mk (some 3) (AOp.mv (Operand.tmp 27)) none [3, 1, 0, 1, 2, 3],
              AOper.mk (some 4) (AOp.mv (Operand.tmp 28)) none [4, 5, 0, 1, 2, 3, 4, 5]]
def l25r4 : List AOper :=
  [AOper.mk (some 29) (AOp.load true 3 (Operand.tmp 1)) none [],
                AOper.mk (some 30) (AOp.call 57 [Operand.tmp 29]) none [0],
                AOper.mk (some 31)
                  (AOp.bin BinOp.eql (Operand.tmp 30) (Operand.const (Value.int IntKind.i64 0))) none [1],
                AOper.mk (some 32) (AOp.mv (Operand.tmp 31)) none [2, 1],
                AOper.mk (some 33) (AOp.mv (Operand.tmp 3)) (some (32, false)) [3],
                AOper.mk (some 34)
                  (AOp.bin BinOp.geq (Operand.tmp 33) (Operand.const (Value.int IntKind.i64 0)))
                  (some (32, false)) [4, 3],
                AOper.mk (some 35) (AOp.mv (Operand.tmp 34)) (some (32, false)) [5, 3, 3],
                AOper.mk (some 36) (AOp.mv (Operand.tmp 4)) (some (35, true)) [6],
                AOper.mk (some 37)
                  (AOp.bin BinOp.lss (Operand.tmp 36) (Operand.const (Value.int IntKind.i64 60)))
                  (some (35, true)) [7, 6],
                AOper.mk (some 38) (AOp.pick (Operand.tmp 35) (Operand.tmp 37) (Operand.const (Value.bool false)))
                  (some (32, false)) [6, 8, 3],
                AOper.mk (some 39) (AOp.pick (Operand.tmp 32) (Operand.const (Value.bool true)) (Operand.tmp 38)) none
                  [3, 9],
                AOper.mk (some 2) (AOp.mv (Operand.tmp 39)) none [10, 6, 0, 1, 2, 3, 4, 5, 6, 7, 8, 9, 10]]
def l25 : AFn :=
  (AFn.mk 40 1
    (ACode.seq
      (ACode.reg l25r0)
      (ACode.seq
        (ACode.seq
          (ACode.reg l25r1)
          (ACode.cond (Operand.tmp 23)
            (ACode.seq (ACode.reg l25r2) ACode.ret)
            ACode.skip))
        (ACode.seq
          (ACode.reg l25r3)
          (ACode.seq
            (ACode.reg l25r4)
            ACode.ret))))
    [ARes.tmp 2])
theorem l25_eq : lowFn Try.prog 25 = some l25 := by kernel_rfl
def l26r0 : List AOper :=
  [AOper.mk (some 2) (AOp.box (Operand.tmp 0)) none [], AOper.mk (some 3) (AOp.box (Operand.tmp 1)) none [],
          AOper.mk (some 4) (AOp.mv (Operand.const (Value.bool false))) none []]
def l26r1 : List AOper :=
  [AOper.mk (some 5) (AOp.fld 0 (Operand.tmp 2)) none [],
              AOper.mk (some 6) (AOp.load false 1 (Operand.tmp 5)) none [0],
              AOper.mk (some 7) (AOp.fld 0 (Operand.tmp 3)) none [],
              AOper.mk (some 8) (AOp.load false 1 (Operand.tmp 7)) none [2],
              AOper.mk (some 9) (AOp.bin BinOp.neq (Operand.tmp 6) (Operand.tmp 8)) none [1, 3]]
def l26r2 : List AOper :=
  [AOper.mk (some 4) (AOp.mv (Operand.const (Value.bool false))) none []]
def l26r3 : List AOper :=
  [AOper.mk (some 10) (AOp.fld 1 (Operand.tmp 2)) none [],
                AOper.mk (some 11) (AOp.load false 1 (Operand.tmp 10)) none [0],
                AOper.mk (some 12) (AOp.fld 1 (Operand.tmp 3)) none [],
                AOper.mk (some 13) (AOp.load false 1 (Operand.tmp 12)) none [2],
                AOper.mk (some 14) (AOp.call 30 [Operand.tmp 11, Operand.tmp 13]) none [1, 3],
                AOper.mk (some 15) (AOp.un UnOp.not (Operand.tmp 14)) none [4]]
def l26r4 : List AOper :=
  [AOper.mk (some 4) (AOp.mv (Operand.const (Value.bool false))) none []]
def l26r5 : List AOper :=
  [AOper.mk (some 16) (AOp.fld 2 (Operand.tmp 2)) none [],
                  AOper.mk (some 17) (AOp.load false 1 (Operand.tmp 16)) none [0],
                  AOper.mk (some 18) (AOp.fld 2 (Operand.tmp 3)) none [],
                  AOper.mk (some 19) (AOp.load false 1 (Operand.tmp 18)) none [2],
                  AOper.mk (some 20) (AOp.call 30 [Operand.tmp 17, Operand.tmp 19]) none [1, 3],
                  AOper.mk (some 21) (AOp.un UnOp.not (Operand.tmp 20)) none [4]]
def l26r6 : List AOper :=
  [AOper.mk (some 4) (AOp.mv (Operand.const (Value.bool false))) none []]
def l26r7 : List AOper :=
  [AOper.mk (some 4) (AOp.mv (Operand.const (Value.bool true))) none []]
def l26 : AFn :=
  (AFn.mk 22 2
    (ACode.seq
      (ACode.reg l26r0)
      (ACode.seq
        (ACode.seq
          (ACode.reg l26r1)
          (ACode.cond (Operand.tmp 9)
            (ACode.seq (ACode.reg l26r2) ACode.ret)
            ACode.skip))
        (ACode.seq
          (ACode.seq
            (ACode.reg l26r3)
            (ACode.cond (Operand.tmp 15)
              (ACode.seq (ACode.reg l26r4) ACode.ret)
              ACode.skip))
          (ACode.seq
            (ACode.seq
              (ACode.reg l26r5)
              (ACode.cond (Operand.tmp 21)
                (ACode.seq (ACode.reg l26r6)
                  ACode.ret)
                ACode.skip))
            (ACode.seq (ACode.reg l26r7) ACode.ret)))))
    [ARes.tmp 4])
theorem l26_eq : lowFn Try.prog 26 = some l26 := by kernel_rfl
def l28r0 : List AOper :=
  [AOper.mk (some 2) (AOp.mv (Operand.const (Value.slice none 0 0))) none []]
def l28r1 : List AOper :=
  [AOper.mk (some 5) (AOp.mv (Operand.tmp 0)) none [], AOper.mk (some 6) (AOp.len (Operand.tmp 5)) none [0],
            AOper.mk (some 7) (AOp.mkslice 1 [Value.int IntKind.i64 0] (Operand.tmp 6) (Operand.tmp 6)) none
              [1, 1],
            AOper.mk (some 3) (AOp.mv (Operand.tmp 7)) none [2, 0, 1, 2]]
def l28r2 : List AOper :=
  [AOper.mk (some 4) (AOp.mv (Operand.const (Value.int IntKind.i64 0))) none []]
def l28r3 : List AOper :=
  [AOper.mk (some 8) (AOp.mv (Operand.tmp 4)) none [],
                        AOper.mk (some 9) (AOp.mv (Operand.tmp 0)) none [],
                        AOper.mk (some 10) (AOp.len (Operand.tmp 9)) none [1],
                        AOper.mk (some 11) (AOp.bin BinOp.lss (Operand.tmp 8) (Operand.tmp 10)) none [0, 2]]
def l28r4 : List AOper :=
  [AOper.mk (some 14) (AOp.mv (Operand.tmp 3)) none [],
                          AOper.mk (some 15) (AOp.mv (Operand.tmp 4)) none [],
                          AOper.mk (some 16) (AOp.mv (Operand.tmp 0)) none [],
                          AOper.mk (some 17) (AOp.mv (Operand.tmp 4)) none [],
                          AOper.mk (some 18) (AOp.idxA 1 (Operand.tmp 16) (Operand.tmp 17)) none [2, 3],
                          AOper.mk (some 19) (AOp.load false 1 (Operand.tmp 18)) none [4],
                          AOper.mk (some 20) (AOp.idxA 1 (Operand.tmp 14) (Operand.tmp 15)) none
                            [0, 1, 0, 1, 2, 3, 4, 5],
                          AOper.mk none (AOp.store 1 (Operand.tmp 20) (Operand.tmp 19)) none [6, 5, 0, 1, 2, 3, 4, 5]]
def l28r5 : List AOper :=
  [AOper.mk (some 12) (AOp.mv (Operand.tmp 4)) none [],
                        AOper.mk (some 13)
                          (AOp.bin BinOp.add (Operand.tmp 12) (Operand.const (Value.int IntKind.i64 1)))
                          none [0],
                        AOper.mk (some 4) (AOp.mv (Operand.tmp 13)) none [1, 0, 1]]
def l28r6 : List AOper :=
  [AOper.mk (some 21) (AOp.mv (Operand.tmp 3)) none [],
                AOper.mk (some 2) (AOp.mv (Operand.tmp 21)) none [0, 0]]
def l28 : AFn :=
  (AFn.mk 22 1
    (ACode.seq (ACode.reg l28r0)
      (ACode.seq
        (ACode.reg l28r1)
        (ACode.seq
          (ACode.seq
            (ACode.reg l28r2)
            (ACode.block 0
              (ACode.loop
                (ACode.seq
                  (ACode.seq
                    (ACode.reg l28r3)
                    (ACode.cond (Operand.tmp 11) ACode.skip (ACode.exit 0)))
                  (ACode.seq
                    (ACode.block 1
                      (ACode.reg l28r4))
                    (ACode.reg l28r5))))))
          (ACode.seq
            (ACode.reg l28r6)
            ACode.ret))))
    [ARes.tmp 2])
theorem l28_eq : lowFn Try.prog 28 = some l28 := by kernel_rfl
def l30r0 : List AOper :=
  [AOper.mk (some 4) (AOp.mv (Operand.const (Value.bool false))) none []]
def l30r1 : List AOper :=
  [AOper.mk (some 6) (AOp.mv (Operand.tmp 0)) none [], AOper.mk (some 7) (AOp.len (Operand.tmp 6)) none [0],
              AOper.mk (some 8) (AOp.mv (Operand.tmp 1)) none [], AOper.mk (some 9) (AOp.len (Operand.tmp 8)) none [2],
              AOper.mk (some 10) (AOp.bin BinOp.neq (Operand.tmp 7) (Operand.tmp 9)) none [1, 3]]
def l30r2 : List AOper :=
  [AOper.mk (some 4) (AOp.mv (Operand.const (Value.bool false))) none []]
def l30r3 : List AOper :=
  [AOper.mk (some 5) (AOp.mv (Operand.const (Value.int IntKind.i64 0))) none []]
def l30r4 : List AOper :=
  [AOper.mk (some 11) (AOp.mv (Operand.tmp 5)) none [],
                        AOper.mk (some 12) (AOp.mv (Operand.tmp 0)) none [],
                        AOper.mk (some 13) (AOp.len (Operand.tmp 12)) none [1],
                        AOper.mk (some 14) (AOp.bin BinOp.lss (Operand.tmp 11) (Operand.tmp 13)) none [0, 2]]
def l30r5a : List AOper :=
  [AOper.mk (some 17) (AOp.mv (Operand.tmp 0)) none [], AOper.mk (some 18) (AOp.mv (Operand.tmp 5)) none [], AOper.mk (some 19) (AOp.idxA 1 (Operand.tmp 17) (Operand.tmp 18)) none [0, 1], AOper.mk (some 20) (AOp.load false 1 (Operand.tmp 19)) none [2], AOper.mk (some 21) (AOp.mv (Operand.tmp 1)) none [], AOper.mk (some 22) (AOp.mv (Operand.tmp 5)) none [], AOper.mk (some 23) (AOp.idxA 1 (Operand.tmp 21) (Operand.tmp 22)) none [4, 5], AOper.mk (some 24) (AOp.load false 1 (Operand.tmp 23)) none [6]]
def l30r5b : List AOper :=
  [AOper.mk (some 25) (AOp.bin BinOp.neq (Operand.tmp 20) (Operand.tmp 24)) none [3, 7]]
def l30r5 : List AOper := l30r5a ++ l30r5b
def l30r6 : List AOper :=
  [AOper.mk (some 4) (AOp.mv (Operand.const (Value.bool false))) none []]
def l30r7 : List AOper :=
  [AOper.mk (some 15) (AOp.mv (Operand.tmp 5)) none [],
                        AOper.mk (some 16)
                          (AOp.bin BinOp.add (Operand.tmp 15) (Operand.const (Value.int IntKind.i64 1)))
                          none [0],
                        AOper.mk (some 5) (AOp.mv (Operand.tmp 16)) none [1, 0, 1]]
def l30r8 : List AOper :=
  [AOper.mk (some 4) (AOp.mv (Operand.const (Value.bool true))) none []]
def l30 : AFn :=
  (AFn.mk 26 2
    (ACode.seq (ACode.reg l30r0)
      (ACode.seq
        (ACode.seq
          (ACode.reg l30r1)
          (ACode.cond (Operand.tmp 10)
            (ACode.seq (ACode.reg l30r2) ACode.ret)
            ACode.skip))
        (ACode.seq
          (ACode.seq
            (ACode.reg l30r3)
            (ACode.block 0
              (ACode.loop
                (ACode.seq
                  (ACode.seq
                    (ACode.reg l30r4)
                    (ACode.cond (Operand.tmp 14) ACode.skip (ACode.exit 0)))
                  (ACode.seq
                    (ACode.block 1
                      (ACode.seq
                        (ACode.draw l30r5)
                        (ACode.cond (Operand.tmp 25)
                          (ACode.seq (ACode.reg l30r6)
                            ACode.ret)
                          ACode.skip)))
                    (ACode.reg l30r7))))))
          (ACode.seq (ACode.reg l30r8) ACode.ret))))
    [ARes.tmp 4])
theorem l30_eq : lowFn Try.prog 30 = some l30 := by kernel_rfl
def l36r0 : List AOper :=
  [AOper.mk (some 1) (AOp.box (Operand.tmp 0)) none [],
          AOper.mk (some 2) (AOp.mv (Operand.const (Value.int IntKind.i64 0))) none [],
          AOper.mk (some 3) (AOp.mv (Operand.const (Value.int IntKind.i64 0))) none [1]]
def l36r1 : List AOper :=
  [AOper.mk (some 8) (AOp.load true 3 (Operand.tmp 1)) none [],
              AOper.mk (some 9) (AOp.call 52 [Operand.tmp 8]) none [0],
              AOper.mk (some 10) (AOp.un UnOp.not (Operand.tmp 9)) none [1],
              AOper.mk (some 11) (AOp.mv (Operand.tmp 10)) none [2, 1],
              AOper.mk (some 12) (AOp.fld 1 (Operand.tmp 1)) (some (11, false)) [3],
              AOper.mk (some 13) (AOp.load false 1 (Operand.tmp 12)) (some (11, false)) [4, 3],
              AOper.mk (some 14) (AOp.call 64 [Operand.tmp 13]) (some (11, false)) [5, 3, 3],
              AOper.mk (some 15)
                (AOp.bin BinOp.eql (Operand.tmp 14) (Operand.const (Value.int IntKind.i64 0)))
                (some (11, false)) [6, 3],
              AOper.mk (some 16) (AOp.pick (Operand.tmp 11) (Operand.const (Value.bool true)) (Operand.tmp 15)) none
                [3, 7]]
def l36r2 : List AOper :=
  [AOper.mk (some 2) (AOp.mv (Operand.const (Value.int IntKind.i64 (-1)))) none [],
                  AOper.mk (some 3) (AOp.mv (Operand.const (Value.int IntKind.i64 (-1)))) none [0, 0]]
def l36r3 : List AOper :=
  [AOper.mk (some 17) (AOp.load true 3 (Operand.tmp 1)) none [],
              AOper.mk (some 18) (AOp.call 62 [Operand.tmp 17]) none [0],
              AOper.mk (some 4) (AOp.mv (Operand.tmp 18)) none [1, 1, 0, 1]]
def l36r4 : List AOper :=
  [AOper.mk (some 19) (AOp.mv (Operand.tmp 4)) none [],
                AOper.mk (some 20) (AOp.idxA 1 (Operand.tmp 19) (Operand.const (Value.int IntKind.i64 0)))
                  none [0],
                AOper.mk (some 21) (AOp.load false 1 (Operand.tmp 20)) none [1],
                AOper.mk (some 5) (AOp.mv (Operand.tmp 21)) none [2, 0, 1, 2]]
def l36r5 : List AOper :=
  [AOper.mk (some 22) (AOp.mv (Operand.tmp 4)) none [],
                  AOper.mk (some 23) (AOp.idxA 1 (Operand.tmp 22) (Operand.const (Value.int IntKind.i64 0)))
                    none [0],
                  AOper.mk (some 24) (AOp.load false 1 (Operand.tmp 23)) none [1],
                  AOper.mk (some 6) (AOp.mv (Operand.tmp 24)) none [2, 0, 1, 2]]
def l36r6 : List AOper :=
  [AOper.mk (some 7) (AOp.mv (Operand.const (Value.int IntKind.i64 0))) none []]
def l36r7 : List AOper :=
  [AOper.mk (some 25) (AOp.mv (Operand.tmp 7)) none [],
                              AOper.mk (some 26) (AOp.mv (Operand.tmp 4)) none [],
                              AOper.mk (some 27) (AOp.len (Operand.tmp 26)) none [1],
                              AOper.mk (some 28) (AOp.bin BinOp.lss (Operand.tmp 25) (Operand.tmp 27)) none [0, 2]]
def l36r8 : List AOper :=
  [AOper.mk (some 31) (AOp.mv (Operand.tmp 5)) none [],
                                  AOper.mk (some 32) (AOp.mv (Operand.tmp 4)) none [],
                                  AOper.mk (some 33) (AOp.mv (Operand.tmp 7)) none [],
                                  AOper.mk (some 34) (AOp.idxA 1 (Operand.tmp 32) (Operand.tmp 33)) none [1, 2],
                                  AOper.mk (some 35) (AOp.load false 1 (Operand.tmp 34)) none [3],
                                  AOper.mk (some 36) (AOp.minmax false (Operand.tmp 31) (Operand.tmp 35)) none [0, 4],
                                  AOper.mk (some 5) (AOp.mv (Operand.tmp 36)) none [5, 0, 1, 2, 3, 4, 5]]
def l36r9 : List AOper :=
  [AOper.mk (some 37) (AOp.mv (Operand.tmp 6)) none [],
                                  AOper.mk (some 38) (AOp.mv (Operand.tmp 4)) none [],
                                  AOper.mk (some 39) (AOp.mv (Operand.tmp 7)) none [],
                                  AOper.mk (some 40) (AOp.idxA 1 (Operand.tmp 38) (Operand.tmp 39)) none [1, 2],
                                  AOper.mk (some 41) (AOp.load false 1 (Operand.tmp 40)) none [3],
                                  AOper.mk (some 42) (AOp.minmax true (Operand.tmp 37) (Operand.tmp 41)) none [0, 4],
                                  AOper.mk (some 6) (AOp.mv (Operand.tmp 42)) none [5, 0, 1, 2, 3, 4, 5]]
def l36r10 : List AOper :=
  [AOper.mk (some 29) (AOp.mv (Operand.tmp 7)) none [],
                              AOper.mk (some 30)
                                (AOp.bin BinOp.add (Operand.tmp 29)
                                  (Operand.const (Value.int IntKind.i64 1)))
                                none [0],
                              AOper.mk (some 7) (AOp.mv (Operand.tmp 30)) none [1, 0, 1]]
def l36r11 : List AOper :=
  [AOper.mk (some 43) (AOp.mv (Operand.tmp 5)) none [],
                      AOper.mk (some 44) (AOp.mv (Operand.tmp 6)) none [],
                      AOper.mk (some 2) (AOp.mv (Operand.tmp 43)) none [0, 0],
                      AOper.mk (some 3) (AOp.mv (Operand.tmp 44)) none [1, 2, 0, 1, 2]]
def l36 : AFn :=
  (AFn.mk 45 1
    (ACode.seq
      (ACode.reg l36r0)
      (ACode.seq
        (ACode.seq
          (ACode.reg l36r1)
          (ACode.cond (Operand.tmp 16)
            (ACode.seq
              (ACode.reg l36r2)
              ACode.ret)
            ACode.skip))
        (ACode.seq
          (ACode.reg l36r3)
          (ACode.seq
            (ACode.reg l36r4)
            (ACode.seq
              (ACode.reg l36r5)
              (ACode.seq
                (ACode.seq
                  (ACode.reg l36r6)
                  (ACode.block 0
                    (ACode.loop
                      (ACode.seq
                        (ACode.seq
                          (ACode.reg l36r7)
                          (ACode.cond (Operand.tmp 28) ACode.skip (ACode.exit 0)))
                        (ACode.seq
                          (ACode.block 1
                            (ACode.seq
                              (ACode.reg l36r8)
                              (ACode.reg l36r9)))
                          (ACode.reg l36r10))))))
                (ACode.seq
                  (ACode.reg l36r11)
                  ACode.ret)))))))
    [ARes.tmp 2, ARes.tmp 3])
theorem l36_eq : lowFn Try.prog 36 = some l36 := by kernel_rfl
def l37r0 : List AOper :=
  [AOper.mk (some 1) (AOp.box (Operand.tmp 0)) none [],
          AOper.mk (some 2) (AOp.mv (Operand.const (Value.int IntKind.i64 0))) none [],
          AOper.mk (some 3) (AOp.mv (Operand.const (Value.int IntKind.i64 0))) none [1]]
def l37r1 : List AOper :=
  [AOper.mk (some 4) (AOp.load true 3 (Operand.tmp 1)) none [],
              AOper.mk (some 5) (AOp.call 25 [Operand.tmp 4]) none [0],
              AOper.mk (some 6) (AOp.un UnOp.not (Operand.tmp 5)) none [1]]
def l37r2 : List AOper :=
  [AOper.mk (some 2) (AOp.mv (Operand.const (Value.int IntKind.i64 (-1)))) none [],
                  AOper.mk (some 3) (AOp.mv (Operand.const (Value.int IntKind.i64 (-1)))) none [0, 0]]
def l37r3 : List AOper :=
  [AOper.mk (some 7) (AOp.load true 3 (Operand.tmp 1)) none [],
              AOper.mk (some 8) (AOp.call 56 [Operand.tmp 7]) none [0],
              AOper.mk (some 9) (AOp.extract (Operand.tmp 8) 0) none [1],
              AOper.mk (some 10) (AOp.extract (Operand.tmp 8) 1) none [1],
              AOper.mk (some 2) (AOp.mv (Operand.tmp 9)) none [2, 1, 0, 1, 2, 3],
              AOper.mk (some 3) (AOp.mv (Operand.tmp 10)) none [3, 4, 0, 1, 2, 3, 4]]
def l37 : AFn :=
  (AFn.mk 11 1
    (ACode.seq
      (ACode.reg l37r0)
      (ACode.seq
        (ACode.seq
          (ACode.reg l37r1)
          (ACode.cond (Operand.tmp 6)
            (ACode.seq
              (ACode.reg l37r2)
              ACode.ret)
            ACode.skip))
        (ACode.seq
          (ACode.reg l37r3)
          ACode.ret)))
    [ARes.tmp 2, ARes.tmp 3])
theorem l37_eq : lowFn Try.prog 37 = some l37 := by kernel_rfl
def l48r0 : List AOper :=
  [AOper.mk (some 6) (AOp.mv (Operand.const (Value.bool false))) none []]
def l48r1 : List AOper :=
  [AOper.mk (some 7) (AOp.mv (Operand.tmp 1)) none [], AOper.mk (some 8) (AOp.mv (Operand.tmp 0)) none [],
            AOper.mk (some 9) (AOp.bin BinOp.leq (Operand.tmp 7) (Operand.tmp 8)) none [0, 1],
            AOper.mk (some 10) (AOp.mv (Operand.tmp 9)) none [2],
            AOper.mk (some 11) (AOp.mv (Operand.tmp 0)) (some (10, true)) [3],
            AOper.mk (some 12) (AOp.mv (Operand.tmp 2)) (some (10, true)) [3],
            AOper.mk (some 13) (AOp.bin BinOp.leq (Operand.tmp 11) (Operand.tmp 12)) (some (10, true)) [4, 5, 3],
            AOper.mk (some 14) (AOp.pick (Operand.tmp 10) (Operand.tmp 13) (Operand.const (Value.bool false))) none
              [3, 6],
            AOper.mk (some 6) (AOp.mv (Operand.tmp 14)) none [7, 3, 0, 1, 2, 3, 4, 5, 6, 7]]
def l48 : AFn :=
  (AFn.mk 15 3
    (ACode.seq (ACode.reg l48r0)
      (ACode.seq
        (ACode.reg l48r1)
        ACode.ret))
    [ARes.tmp 6])
theorem l48_eq : lowFn Try.prog 48 = some l48 := by kernel_rfl
def l51r0 : List AOper :=
  [AOper.mk (some 4) (AOp.mv (Operand.const (Value.int IntKind.i64 0))) none []]
def l51r1 : List AOper :=
  [AOper.mk (some 5) (AOp.mv (Operand.tmp 1)) none [], AOper.mk (some 6) (AOp.mv (Operand.tmp 0)) none [],
            AOper.mk (some 7) (AOp.len (Operand.tmp 6)) none [1],
            AOper.mk (some 8) (AOp.bin BinOp.sub (Operand.tmp 5) (Operand.tmp 7)) none [0, 2],
            AOper.mk (some 1) (AOp.mv (Operand.tmp 8)) none [3, 0, 1, 2, 3]]
def l51r2 : List AOper :=
  [AOper.mk (some 9) (AOp.mv (Operand.tmp 1)) none [],
                AOper.mk (some 10)
                  (AOp.bin BinOp.lss (Operand.tmp 9) (Operand.const (Value.int IntKind.i64 0))) none [0]]
def l51r3 : List AOper :=
  [AOper.mk (some 4) (AOp.mv (Operand.const (Value.int IntKind.i64 (-1)))) none []]
def l51r4 : List AOper :=
  [AOper.mk (some 11) (AOp.mv (Operand.tmp 1)) none [],
                AOper.mk (some 4) (AOp.mv (Operand.tmp 11)) none [0, 0]]
def l51 : AFn :=
  (AFn.mk 12 2
    (ACode.seq (ACode.reg l51r0)
      (ACode.seq
        (ACode.reg l51r1)
        (ACode.seq
          (ACode.seq
            (ACode.reg l51r2)
            (ACode.cond (Operand.tmp 10)
              (ACode.seq
                (ACode.reg l51r3)
                ACode.ret)
              ACode.skip))
          (ACode.seq
            (ACode.reg l51r4)
            ACode.ret))))
    [ARes.tmp 4])
theorem l51_eq : lowFn Try.prog 51 = some l51 := by kernel_rfl
def l52r0 : List AOper :=
  [AOper.mk (some 1) (AOp.box (Operand.tmp 0)) none [],
          AOper.mk (some 2) (AOp.mv (Operand.const (Value.bool false))) none []]
def l52r1 : List AOper :=
  [AOper.mk (some 3) (AOp.fld 1 (Operand.tmp 1)) none [],
            AOper.mk (some 4) (AOp.load false 1 (Operand.tmp 3)) none [0],
            AOper.mk (some 5) (AOp.call 77 [Operand.tmp 4]) none [1],
            AOper.mk (some 6) (AOp.mv (Operand.tmp 5)) none [2, 2],
            AOper.mk (some 7) (AOp.fld 2 (Operand.tmp 1)) (some (6, true)) [3],
            AOper.mk (some 8) (AOp.load false 1 (Operand.tmp 7)) (some (6, true)) [4, 3],
            AOper.mk (some 9) (AOp.len (Operand.tmp 8)) (some (6, true)) [5, 3],
            AOper.mk (some 10) (AOp.fld 1 (Operand.tmp 1)) (some (6, true)) [3],
            AOper.mk (some 11) (AOp.load false 1 (Operand.tmp 10)) (some (6, true)) [7, 3],
            AOper.mk (some 12) (AOp.len (Operand.tmp 11)) (some (6, true)) [8, 3],
            AOper.mk (some 13) (AOp.bin BinOp.eql (Operand.tmp 9) (Operand.tmp 12)) (some (6, true)) [6, 9, 3],
            AOper.mk (some 14) (AOp.pick (Operand.tmp 6) (Operand.tmp 13) (Operand.const (Value.bool false))) none
              [3, 10],
            AOper.mk (some 15) (AOp.mv (Operand.tmp 14)) none [11, 3],
            AOper.mk (some 16) (AOp.fld 2 (Operand.tmp 1)) (some (15, true)) [12],
            AOper.mk (some 17) (AOp.load false 1 (Operand.tmp 16)) (some (15, true)) [13, 12],
            AOper.mk (some 18)
              (AOp.call 78
                [Operand.tmp 17, Operand.const (Value.int IntKind.i64 (-60)),
                  Operand.const (Value.int IntKind.i64 60)])
              (some (15, true)) [14, 12, 12],
            AOper.mk (some 19) (AOp.pick (Operand.tmp 15) (Operand.tmp 18) (Operand.const (Value.bool false))) none
              [12, 15],
            AOper.mk (some 20) (AOp.mv (Operand.tmp 19)) none [16, 15],
            AOper.mk (some 21) (AOp.fld 0 (Operand.tmp 1)) (some (20, true)) [17],
            AOper.mk (some 22) (AOp.load false 1 (Operand.tmp 21)) (some (20, true)) [18, 17],
            AOper.mk (some 23)
              (AOp.call 48
                [Operand.tmp 22, Operand.const (Value.int IntKind.i64 0),
                  Operand.const (Value.int IntKind.i64 60)])
              (some (20, true)) [19, 17, 17],
            AOper.mk (some 24) (AOp.pick (Operand.tmp 20) (Operand.tmp 23) (Operand.const (Value.bool false))) none
              [17, 20],
            AOper.mk (some 25) (AOp.mv (Operand.tmp 24)) none [21, 20],
            AOper.mk (some 26) (AOp.fld 1 (Operand.tmp 1)) (some (25, true)) [22],
            AOper.mk (some 27) (AOp.load false 1 (Operand.tmp 26)) (some (25, true)) [23, 22],
            AOper.mk (some 28) (AOp.call 64 [Operand.tmp 27]) (some (25, true)) [24, 22, 22],
            AOper.mk (some 29)
              (AOp.bin BinOp.eql (Operand.tmp 28) (Operand.const (Value.int IntKind.i64 0)))
              (some (25, true)) [25, 22],
            AOper.mk (some 30) (AOp.mv (Operand.tmp 29)) (some (25, true)) [26, 25, 22],
            AOper.mk (some 31) (AOp.load true 3 (Operand.tmp 1)) (some (30, false)) [27],
            AOper.mk (some 32) (AOp.call 62 [Operand.tmp 31]) (some (30, false)) [28, 27, 27],
            AOper.mk (some 33)
              (AOp.call 78
                [Operand.tmp 32, Operand.const (Value.int IntKind.i64 0),
                  Operand.const (Value.int IntKind.i64 59)])
              (some (30, false)) [29, 29, 27],
            AOper.mk (some 34) (AOp.pick (Operand.tmp 30) (Operand.const (Value.bool true)) (Operand.tmp 33))
              (some (25, true)) [27, 30, 22],
            AOper.mk (some 35) (AOp.pick (Operand.tmp 25) (Operand.tmp 34) (Operand.const (Value.bool false))) none
              [22, 31],
            AOper.mk (some 2) (AOp.mv (Operand.tmp 35)) none
              [32, 30, 0, 1, 2, 3, 4, 5, 6, 7, 8, 9, 10, 11, 12, 13, 14, 15, 16, 17, 18, 19, 20, 21, 22, 23, 24, 25, 26,
                27, 28, 29, 30, 31, 32]]
def l52 : AFn :=
  (AFn.mk 36 1
    (ACode.seq
      (ACode.reg l52r0)
      (ACode.seq
        (ACode.reg l52r1)
        ACode.ret))
    [ARes.tmp 2])
theorem l52_eq : lowFn Try.prog 52 = some l52 := by kernel_rfl
def l53r0 : List AOper :=
  [AOper.mk (some 2) (AOp.mv (Operand.const (Value.bool false))) none []]
def l53r1 : List AOper :=
  [AOper.mk (some 5) (AOp.mv (Operand.tmp 0)) none [], AOper.mk (some 6) (AOp.len (Operand.tmp 5)) none [0],
              AOper.mk (some 7)
                (AOp.bin BinOp.gtr (Operand.tmp 6) (Operand.const (Value.int IntKind.i64 4))) none [1]]
def l53r2 : List AOper :=
  [AOper.mk (some 2) (AOp.mv (Operand.const (Value.bool false))) none []]
def l53r3 : List AOper :=
  [AOper.mk (some 8) (AOp.mv (Operand.tmp 0)) none [], AOper.mk (some 9) (AOp.len (Operand.tmp 8)) none [0],
                AOper.mk (some 10) (AOp.mv (Operand.const (Value.int IntKind.i64 0))) none []]
def l53r4 : List AOper :=
  [AOper.mk (some 11) (AOp.bin BinOp.lss (Operand.tmp 10) (Operand.tmp 9)) none []]
def l53r5 : List AOper :=
  [AOper.mk (some 12) (AOp.idxA 1 (Operand.tmp 8) (Operand.tmp 10)) none [],
                              AOper.mk (some 13) (AOp.load false 1 (Operand.tmp 12)) none [0],
                              AOper.mk (some 4) (AOp.mv (Operand.tmp 13)) none [1, 0, 1]]
def l53r6 : List AOper :=
  [AOper.mk (some 14) (AOp.mv (Operand.tmp 4)) none [],
                                AOper.mk (some 15)
                                  (AOp.call 55 [Operand.tmp 14, Operand.const (Value.int IntKind.i64 60)])
                                  none [0],
                                AOper.mk (some 16) (AOp.un UnOp.not (Operand.tmp 15)) none [1]]
def l53r7 : List AOper :=
  [AOper.mk (some 2) (AOp.mv (Operand.const (Value.bool false))) none []]
def l53r8 : List AOper :=
  [AOper.mk (some 17)
                            (AOp.bin BinOp.add (Operand.tmp 10) (Operand.const (Value.int IntKind.i64 1)))
                            none [],
                          AOper.mk (some 10) (AOp.mv (Operand.tmp 17)) none [0]]
def l53r9 : List AOper :=
  [AOper.mk (some 18) (AOp.mv (Operand.tmp 0)) none [],
                AOper.mk (some 19) (AOp.call 79 [Operand.tmp 18]) none [0],
                AOper.mk (some 20)
                  (AOp.bin BinOp.leq (Operand.tmp 19) (Operand.const (Value.int IntKind.i64 60))) none [1],
                AOper.mk (some 2) (AOp.mv (Operand.tmp 20)) none [2, 1, 0, 1, 2]]
def l53 : AFn :=
  (AFn.mk 21 1
    (ACode.seq (ACode.reg l53r0)
      (ACode.seq
        (ACode.seq
          (ACode.reg l53r1)
          (ACode.cond (Operand.tmp 7)
            (ACode.seq (ACode.reg l53r2) ACode.ret)
            ACode.skip))
        (ACode.seq
          (ACode.seq
            (ACode.reg l53r3)
            (ACode.block 0
              (ACode.loop
                (ACode.seq (ACode.reg l53r4)
                  (ACode.seq (ACode.cond (Operand.tmp 11) ACode.skip (ACode.exit 0))
                    (ACode.seq
                      (ACode.block 1
                        (ACode.seq
                          (ACode.reg l53r5)
                          (ACode.seq
                            (ACode.reg l53r6)
                            (ACode.cond (Operand.tmp 16)
                              (ACode.seq
                                (ACode.reg l53r7)
                                ACode.ret)
                              ACode.skip))))
                      (ACode.reg l53r8)))))))
          (ACode.seq
            (ACode.reg l53r9)
            ACode.ret))))
    [ARes.tmp 2])
theorem l53_eq : lowFn Try.prog 53 = some l53 := by kernel_rfl
def l54r0 : List AOper :=
  [AOper.mk (some 4) (AOp.mv (Operand.const (Value.bool false))) none []]
def l54r1 : List AOper :=
  [AOper.mk (some 7) (AOp.mv (Operand.tmp 0)) none [], AOper.mk (some 8) (AOp.len (Operand.tmp 7)) none [0],
              AOper.mk (some 9) (AOp.mv (Operand.tmp 1)) none [],
              AOper.mk (some 10) (AOp.bin BinOp.neq (Operand.tmp 8) (Operand.tmp 9)) none [1, 2]]
def l54r2 : List AOper :=
  [AOper.mk (some 4) (AOp.mv (Operand.const (Value.bool false))) none []]
def l54r3 : List AOper :=
  [AOper.mk (some 11) (AOp.mv (Operand.tmp 0)) none [],
                AOper.mk (some 12) (AOp.len (Operand.tmp 11)) none [0],
                AOper.mk (some 13) (AOp.mv (Operand.const (Value.int IntKind.i64 0))) none []]
def l54r4 : List AOper :=
  [AOper.mk (some 14) (AOp.bin BinOp.lss (Operand.tmp 13) (Operand.tmp 12)) none []]
def l54r5 : List AOper :=
  [AOper.mk (some 15) (AOp.idxA 1 (Operand.tmp 11) (Operand.tmp 13)) none [],
                              AOper.mk (some 16) (AOp.load false 1 (Operand.tmp 15)) none [0],
                              AOper.mk (some 6) (AOp.mv (Operand.tmp 16)) none [1, 0, 1]]
def l54r6 : List AOper :=
  [AOper.mk (some 17) (AOp.mv (Operand.tmp 6)) none [],
                                AOper.mk (some 18)
                                  (AOp.call 69 [Operand.tmp 17, Operand.const (Value.int IntKind.i64 60)])
                                  none [0],
                                AOper.mk (some 19) (AOp.un UnOp.not (Operand.tmp 18)) none [1]]
def l54r7 : List AOper :=
  [AOper.mk (some 4) (AOp.mv (Operand.const (Value.bool false))) none []]
def l54r8 : List AOper :=
  [AOper.mk (some 20)
                            (AOp.bin BinOp.add (Operand.tmp 13) (Operand.const (Value.int IntKind.i64 1)))
                            none [],
                          AOper.mk (some 13) (AOp.mv (Operand.tmp 20)) none [0]]
def l54r9 : List AOper :=
  [AOper.mk (some 4) (AOp.mv (Operand.const (Value.bool true))) none []]
def l54 : AFn :=
  (AFn.mk 21 2
    (ACode.seq (ACode.reg l54r0)
      (ACode.seq
        (ACode.seq
          (ACode.reg l54r1)
          (ACode.cond (Operand.tmp 10)
            (ACode.seq (ACode.reg l54r2) ACode.ret)
            ACode.skip))
        (ACode.seq
          (ACode.seq
            (ACode.reg l54r3)
            (ACode.block 0
              (ACode.loop
                (ACode.seq
                  (ACode.reg l54r4)
                  (ACode.seq (ACode.cond (Operand.tmp 14) ACode.skip (ACode.exit 0))
                    (ACode.seq
                      (ACode.block 1
                        (ACode.seq
                          (ACode.reg l54r5)
                          (ACode.seq
                            (ACode.reg l54r6)
                            (ACode.cond (Operand.tmp 19)
                              (ACode.seq
                                (ACode.reg l54r7)
                                ACode.ret)
                              ACode.skip))))
                      (ACode.reg l54r8)))))))
          (ACode.seq (ACode.reg l54r9) ACode.ret))))
    [ARes.tmp 4])
theorem l54_eq : lowFn Try.prog 54 = some l54 := by kernel_rfl
def l55r0 : List AOper :=
  [AOper.mk (some 4) (AOp.mv (Operand.const (Value.bool false))) none []]
def l55r1 : List AOper :=
  [AOper.mk (some 5) (AOp.mv (Operand.tmp 0)) none [],
            AOper.mk (some 6) (AOp.bin BinOp.leq (Operand.const (Value.int IntKind.i64 0)) (Operand.tmp 5))
              none [0],
            AOper.mk (some 7) (AOp.mv (Operand.tmp 6)) none [1],
            AOper.mk (some 8) (AOp.mv (Operand.tmp 0)) (some (7, true)) [2],
            AOper.mk (some 9) (AOp.mv (Operand.tmp 1)) (some (7, true)) [2],
            AOper.mk (some 10) (AOp.bin BinOp.leq (Operand.tmp 8) (Operand.tmp 9)) (some (7, true)) [3, 4, 2],
            AOper.mk (some 11) (AOp.pick (Operand.tmp 7) (Operand.tmp 10) (Operand.const (Value.bool false))) none
              [2, 5],
            AOper.mk (some 4) (AOp.mv (Operand.tmp 11)) none [6, 2, 0, 1, 2, 3, 4, 5, 6]]
def l55 : AFn :=
  (AFn.mk 12 2
    (ACode.seq (ACode.reg l55r0)
      (ACode.seq
        (ACode.reg l55r1)
        ACode.ret))
    [ARes.tmp 4])
theorem l55_eq : lowFn Try.prog 55 = some l55 := by kernel_rfl
def l56r0 : List AOper :=
  [AOper.mk (some 1) (AOp.box (Operand.tmp 0)) none [],
          AOper.mk (some 2) (AOp.mv (Operand.const (Value.int IntKind.i64 0))) none [],
          AOper.mk (some 3) (AOp.mv (Operand.const (Value.int IntKind.i64 0))) none [1]]
def l56r1 : List AOper :=
  [AOper.mk (some 9) (AOp.load true 3 (Operand.tmp 1)) none [],
              AOper.mk (some 10) (AOp.call 57 [Operand.tmp 9]) none [0],
              AOper.mk (some 11)
                (AOp.bin BinOp.eql (Operand.tmp 10) (Operand.const (Value.int IntKind.i64 0))) none [1]]
def l56r2 : List AOper :=
  [AOper.mk (some 2) (AOp.mv (Operand.const (Value.int IntKind.i64 (-1)))) none [],
                  AOper.mk (some 3) (AOp.mv (Operand.const (Value.int IntKind.i64 (-1)))) none [0, 0]]
def l56r3a : List AOper :=
  [AOper.mk (some 12) (AOp.fld 0 (Operand.tmp 1)) none [], AOper.mk (some 13) (AOp.load false 1 (Operand.tmp 12)) none [0], AOper.mk (some 14) (AOp.fld 0 (Operand.tmp 1)) none [], AOper.mk (some 15) (AOp.load false 1 (Operand.tmp 14)) none [2], AOper.mk (some 4) (AOp.mv (Operand.tmp 13)) none [1, 0, 1]]
def l56r3b : List AOper :=
  [AOper.mk (some 5) (AOp.mv (Operand.tmp 15)) none [3, 4, 0, 1, 2, 3, 4]]
def l56r3 : List AOper := l56r3a ++ l56r3b
def l56r4 : List AOper :=
  [AOper.mk (some 16) (AOp.fld 2 (Operand.tmp 1)) none [],
                  AOper.mk (some 17) (AOp.load false 1 (Operand.tmp 16)) none [0],
                  AOper.mk (some 18) (AOp.len (Operand.tmp 17)) none [1],
                  AOper.mk (some 19) (AOp.mv (Operand.const (Value.int IntKind.i64 0))) none []]
def l56r5 : List AOper :=
  [AOper.mk (some 20) (AOp.bin BinOp.lss (Operand.tmp 19) (Operand.tmp 18)) none []]
def l56r6 : List AOper :=
  [AOper.mk (some 21) (AOp.mv (Operand.tmp 19)) none [],
                                AOper.mk (some 22) (AOp.idxA 1 (Operand.tmp 17) (Operand.tmp 19)) none [],
                                AOper.mk (some 23) (AOp.load false 1 (Operand.tmp 22)) none [1],
                                AOper.mk (some 6) (AOp.mv (Operand.tmp 21)) none [0, 0, 1, 2],
                                AOper.mk (some 7) (AOp.mv (Operand.tmp 23)) none [2, 3, 0, 1, 2, 3]]
def l56r7 : List AOper :=
  [AOper.mk (some 24) (AOp.fld 1 (Operand.tmp 1)) none [],
                                  AOper.mk (some 25) (AOp.load false 1 (Operand.tmp 24)) none [0],
                                  AOper.mk (some 26) (AOp.mv (Operand.tmp 6)) none [],
                                  AOper.mk (some 27) (AOp.idxA 1 (Operand.tmp 25) (Operand.tmp 26)) none [1, 2],
                                  AOper.mk (some 28) (AOp.load false 1 (Operand.tmp 27)) none [3],
                                  AOper.mk (some 29)
                                    (AOp.bin BinOp.sub (Operand.tmp 28)
                                      (Operand.const (Value.int IntKind.i64 1)))
                                    none [4],
                                  AOper.mk (some 30) (AOp.mv (Operand.tmp 7)) none [],
                                  AOper.mk (some 31) (AOp.bin BinOp.mul (Operand.tmp 29) (Operand.tmp 30)) none [5, 6],
                                  AOper.mk (some 8) (AOp.mv (Operand.tmp 31)) none [7, 0, 1, 2, 3, 4, 5, 6, 7]]
def l56r8 : List AOper :=
  [AOper.mk (some 32) (AOp.mv (Operand.tmp 4)) none [],
                                    AOper.mk (some 33) (AOp.mv (Operand.tmp 8)) none [],
                                    AOper.mk (some 34)
                                      (AOp.minmax false (Operand.tmp 33)
                                        (Operand.const (Value.int IntKind.i64 0)))
                                      none [1],
                                    AOper.mk (some 35) (AOp.bin BinOp.add (Operand.tmp 32) (Operand.tmp 34)) none
                                      [0, 2],
                                    AOper.mk (some 4) (AOp.mv (Operand.tmp 35)) none [3, 0, 1, 2, 3]]
def l56r9 : List AOper :=
  [AOper.mk (some 36) (AOp.mv (Operand.tmp 5)) none [],
                                    AOper.mk (some 37) (AOp.mv (Operand.tmp 8)) none [],
                                    AOper.mk (some 38)
                                      (AOp.minmax true (Operand.tmp 37)
                                        (Operand.const (Value.int IntKind.i64 0)))
                                      none [1],
                                    AOper.mk (some 39) (AOp.bin BinOp.add (Operand.tmp 36) (Operand.tmp 38)) none
                                      [0, 2],
                                    AOper.mk (some 5) (AOp.mv (Operand.tmp 39)) none [3, 0, 1, 2, 3]]
def l56r10 : List AOper :=
  [AOper.mk (some 40)
                              (AOp.bin BinOp.add (Operand.tmp 19) (Operand.const (Value.int IntKind.i64 1)))
                              none [],
                            AOper.mk (some 19) (AOp.mv (Operand.tmp 40)) none [0]]
def l56r11 : List AOper :=
  [AOper.mk (some 41) (AOp.mv (Operand.tmp 4)) none [],
                  AOper.mk (some 42) (AOp.mv (Operand.tmp 5)) none [],
                  AOper.mk (some 2) (AOp.mv (Operand.tmp 41)) none [0, 0],
                  AOper.mk (some 3) (AOp.mv (Operand.tmp 42)) none [1, 2, 0, 1, 2]]
def l56 : AFn :=
  (AFn.mk 43 1
    (ACode.seq
      (ACode.reg l56r0)
      (ACode.seq
        (ACode.seq
          (ACode.reg l56r1)
          (ACode.cond (Operand.tmp 11)
            (ACode.seq
              (ACode.reg l56r2)
              ACode.ret)
            ACode.skip))
        (ACode.seq
          (ACode.draw l56r3)
          (ACode.seq
            (ACode.seq
              (ACode.reg l56r4)
              (ACode.block 0
                (ACode.loop
                  (ACode.seq
                    (ACode.reg l56r5)
                    (ACode.seq (ACode.cond (Operand.tmp 20) ACode.skip (ACode.exit 0))
                      (ACode.seq
                        (ACode.block 1
                          (ACode.seq
                            (ACode.reg l56r6)
                            (ACode.seq
                              (ACode.reg l56r7)
                              (ACode.seq
                                (ACode.reg l56r8)
                                (ACode.reg l56r9)))))
                        (ACode.reg l56r10)))))))
            (ACode.seq
              (ACode.reg l56r11)
              ACode.ret)))))
    [ARes.tmp 2, ARes.tmp 3])
theorem l56_eq : lowFn Try.prog 56 = some l56 := by kernel_rfl
def l57r0 : List AOper :=
  [AOper.mk (some 1) (AOp.box (Operand.tmp 0)) none [],
          AOper.mk (some 2) (AOp.mv (Operand.const (Value.int IntKind.i64 0))) none []]
def l57r1 : List AOper :=
  [AOper.mk (some 3) (AOp.fld 1 (Operand.tmp 1)) none [],
            AOper.mk (some 4) (AOp.load false 1 (Operand.tmp 3)) none [0],
            AOper.mk (some 5) (AOp.call 79 [Operand.tmp 4]) none [1],
            AOper.mk (some 2) (AOp.mv (Operand.tmp 5)) none [2, 2, 0, 1, 2]]
def l57 : AFn :=
  (AFn.mk 6 1
    (ACode.seq
      (ACode.reg l57r0)
      (ACode.seq
        (ACode.reg l57r1)
        ACode.ret))
    [ARes.tmp 2])
theorem l57_eq : lowFn Try.prog 57 = some l57 := by kernel_rfl
def l59r0 : List AOper :=
  [AOper.mk (some 2) (AOp.box (Operand.tmp 0)) none [],
          AOper.mk (some 4) (AOp.mv (Operand.const (Value.int IntKind.i64 0))) none []]
def l59r1 : List AOper :=
  [AOper.mk (some 7) (AOp.fld 0 (Operand.tmp 2)) none [],
            AOper.mk (some 8) (AOp.load false 1 (Operand.tmp 7)) none [0],
            AOper.mk (some 5) (AOp.mv (Operand.tmp 8)) none [1, 0, 1]]
def l59r2 : List AOper :=
  [AOper.mk (some 6) (AOp.mv (Operand.const (Value.int IntKind.i64 0))) none []]
def l59r3 : List AOper :=
  [AOper.mk (some 9) (AOp.mv (Operand.tmp 6)) none [],
                        AOper.mk (some 10) (AOp.mv (Operand.tmp 1)) none [],
                        AOper.mk (some 11) (AOp.len (Operand.tmp 10)) none [1],
                        AOper.mk (some 12) (AOp.bin BinOp.lss (Operand.tmp 9) (Operand.tmp 11)) none [0, 2]]
def l59r4a : List AOper :=
  [AOper.mk (some 15) (AOp.mv (Operand.tmp 5)) none [], AOper.mk (some 16) (AOp.mv (Operand.tmp 1)) none [], AOper.mk (some 17) (AOp.mv (Operand.tmp 6)) none [], AOper.mk (some 18) (AOp.idxA 1 (Operand.tmp 16) (Operand.tmp 17)) none [1, 2], AOper.mk (some 19) (AOp.load false 1 (Operand.tmp 18)) none [3], AOper.mk (some 20) (AOp.fld 2 (Operand.tmp 2)) none [], AOper.mk (some 21) (AOp.load false 1 (Operand.tmp 20)) none [5], AOper.mk (some 22) (AOp.mv (Operand.tmp 6)) none [], AOper.mk (some 23) (AOp.idxA 1 (Operand.tmp 21) (Operand.tmp 22)) none [6, 7], AOper.mk (some 24) (AOp.load false 1 (Operand.tmp 23)) none [8], AOper.mk (some 25) (AOp.bin BinOp.mul (Operand.tmp 19) (Operand.tmp 24)) none [4, 9]]
def l59r4b : List AOper :=
  [AOper.mk (some 26) (AOp.bin BinOp.add (Operand.tmp 15) (Operand.tmp 25)) none [0, 10], AOper.mk (some 5) (AOp.mv (Operand.tmp 26)) none [11, 0, 1, 2, 3, 4, 5, 6, 7, 8, 9, 10, 11]]
def l59r4 : List AOper := l59r4a ++ l59r4b
def l59r5 : List AOper :=
  [AOper.mk (some 13) (AOp.mv (Operand.tmp 6)) none [],
                        AOper.mk (some 14)
                          (AOp.bin BinOp.add (Operand.tmp 13) (Operand.const (Value.int IntKind.i64 1)))
                          none [0],
                        AOper.mk (some 6) (AOp.mv (Operand.tmp 14)) none [1, 0, 1]]
def l59r6 : List AOper :=
  [AOper.mk (some 27) (AOp.mv (Operand.tmp 5)) none [],
                AOper.mk (some 4) (AOp.mv (Operand.tmp 27)) none [0, 0]]
def l59 : AFn :=
  (AFn.mk 28 2
    (ACode.seq
      (ACode.reg l59r0)
      (ACode.seq
        (ACode.reg l59r1)
        (ACode.seq
          (ACode.seq
            (ACode.reg l59r2)
            (ACode.block 0
              (ACode.loop
                (ACode.seq
                  (ACode.seq
                    (ACode.reg l59r3)
                    (ACode.cond (Operand.tmp 12) ACode.skip (ACode.exit 0)))
                  (ACode.seq
                    (ACode.block 1
                      (ACode.draw l59r4))
                    (ACode.reg l59r5))))))
          (ACode.seq
            (ACode.reg l59r6)
            ACode.ret))))
    [ARes.tmp 4])
theorem l59_eq : lowFn Try.prog 59 = some l59 := by kernel_rfl
def l62r0 : List AOper :=
  [AOper.mk (some 1) (AOp.box (Operand.tmp 0)) none [],
          AOper.mk (some 2) (AOp.mv (Operand.const (Value.slice none 0 0))) none []]
def l62r1 : List AOper :=
  [AOper.mk (some 5) (AOp.bslice 1 [Value.int IntKind.i64 0] [] 0) none [],
            AOper.mk (some 3) (AOp.mv (Operand.tmp 5)) none [0, 0]]
def l62r2 : List AOper :=
  [AOper.mk (some 4) (AOp.mv (Operand.const (Value.int IntKind.i64 0))) none []]
def l62r3 : List AOper :=
  [AOper.mk (some 6) (AOp.mv (Operand.tmp 4)) none [],
                        AOper.mk (some 7) (AOp.fld 1 (Operand.tmp 1)) none [],
                        AOper.mk (some 8) (AOp.load false 1 (Operand.tmp 7)) none [1],
                        AOper.mk (some 9) (AOp.call 64 [Operand.tmp 8]) none [2],
                        AOper.mk (some 10) (AOp.bin BinOp.lss (Operand.tmp 6) (Operand.tmp 9)) none [0, 3]]
def l62r4a : List AOper :=
  [AOper.mk (some 13) (AOp.mv (Operand.tmp 3)) none [], AOper.mk (some 14) (AOp.load true 3 (Operand.tmp 1)) none [], AOper.mk (some 15) (AOp.fld 1 (Operand.tmp 1)) none [], AOper.mk (some 16) (AOp.load false 1 (Operand.tmp 15)) none [2], AOper.mk (some 17) (AOp.mv (Operand.tmp 4)) none [], AOper.mk (some 18) (AOp.call 81 [Operand.tmp 16, Operand.tmp 17]) none [3, 4], AOper.mk (some 19) (AOp.call 59 [Operand.tmp 14, Operand.tmp 18]) none [1, 5, 5], AOper.mk (some 20)
                            (AOp.bslice 1 [Value.int IntKind.i64 0] [(0, Operand.tmp 19)] 1) none [6]]
def l62r4b : List AOper :=
  [AOper.mk (some 21) (AOp.append 1 (Operand.tmp 13) (Operand.tmp 20)) none [0, 7, 6], AOper.mk (some 3) (AOp.mv (Operand.tmp 21)) none [8, 8, 0, 1, 2, 3, 4, 5, 6, 7, 8]]
def l62r4 : List AOper := l62r4a ++ l62r4b
def l62r5 : List AOper :=
  [AOper.mk (some 11) (AOp.mv (Operand.tmp 4)) none [],
                        AOper.mk (some 12)
                          (AOp.bin BinOp.add (Operand.tmp 11) (Operand.const (Value.int IntKind.i64 1)))
                          none [0],
                        AOper.mk (some 4) (AOp.mv (Operand.tmp 12)) none [1, 0, 1]]
def l62r6 : List AOper :=
  [AOper.mk (some 22) (AOp.mv (Operand.tmp 3)) none [],
                AOper.mk (some 2) (AOp.mv (Operand.tmp 22)) none [0, 0]]
def l62 : AFn :=
  (AFn.mk 23 1
    (ACode.seq
      (ACode.reg l62r0)
      (ACode.seq
        (ACode.reg l62r1)
        (ACode.seq
          (ACode.seq
            (ACode.reg l62r2)
            (ACode.block 0
              (ACode.loop
                (ACode.seq
                  (ACode.seq
                    (ACode.reg l62r3)
                    (ACode.cond (Operand.tmp 10) ACode.skip (ACode.exit 0)))
                  (ACode.seq
                    (ACode.block 1
                      (ACode.draw l62r4))
                    (ACode.reg l62r5))))))
          (ACode.seq
            (ACode.reg l62r6)
            ACode.ret))))
    [ARes.tmp 2])
theorem l62_eq : lowFn Try.prog 62 = some l62 := by kernel_rfl
def l64r0 : List AOper :=
  [AOper.mk (some 2) (AOp.mv (Operand.const (Value.int IntKind.i64 0))) none []]
def l64r1 : List AOper :=
  [AOper.mk (some 3) (AOp.mv (Operand.const (Value.int IntKind.i64 1))) none []]
def l64r2 : List AOper :=
  [AOper.mk (some 4) (AOp.mv (Operand.const (Value.int IntKind.i64 0))) none []]
def l64r3 : List AOper :=
  [AOper.mk (some 5) (AOp.mv (Operand.tmp 4)) none [],
                        AOper.mk (some 6) (AOp.mv (Operand.tmp 0)) none [],
                        AOper.mk (some 7) (AOp.len (Operand.tmp 6)) none [1],
                        AOper.mk (some 8) (AOp.bin BinOp.lss (Operand.tmp 5) (Operand.tmp 7)) none [0, 2]]
def l64r4 : List AOper :=
  [AOper.mk (some 11) (AOp.mv (Operand.tmp 3)) none [],
                          AOper.mk (some 12) (AOp.mv (Operand.tmp 0)) none [],
                          AOper.mk (some 13) (AOp.mv (Operand.tmp 4)) none [],
                          AOper.mk (some 14) (AOp.idxA 1 (Operand.tmp 12) (Operand.tmp 13)) none [1, 2],
                          AOper.mk (some 15) (AOp.load false 1 (Operand.tmp 14)) none [3],
                          AOper.mk (some 16) (AOp.bin BinOp.mul (Operand.tmp 11) (Operand.tmp 15)) none [0, 4],
                          AOper.mk (some 3) (AOp.mv (Operand.tmp 16)) none [5, 0, 1, 2, 3, 4, 5]]
def l64r5 : List AOper :=
  [AOper.mk (some 9) (AOp.mv (Operand.tmp 4)) none [],
                        AOper.mk (some 10)
                          (AOp.bin BinOp.add (Operand.tmp 9) (Operand.const (Value.int IntKind.i64 1))) none
                          [0],
                        AOper.mk (some 4) (AOp.mv (Operand.tmp 10)) none [1, 0, 1]]
def l64r6 : List AOper :=
  [AOper.mk (some 17) (AOp.mv (Operand.tmp 3)) none [],
                AOper.mk (some 2) (AOp.mv (Operand.tmp 17)) none [0, 0]]
def l64 : AFn :=
  (AFn.mk 18 1
    (ACode.seq (ACode.reg l64r0)
      (ACode.seq (ACode.reg l64r1)
        (ACode.seq
          (ACode.seq
            (ACode.reg l64r2)
            (ACode.block 0
              (ACode.loop
                (ACode.seq
                  (ACode.seq
                    (ACode.reg l64r3)
                    (ACode.cond (Operand.tmp 8) ACode.skip (ACode.exit 0)))
                  (ACode.seq
                    (ACode.block 1
                      (ACode.reg l64r4))
                    (ACode.reg l64r5))))))
          (ACode.seq
            (ACode.reg l64r6)
            ACode.ret))))
    [ARes.tmp 2])
theorem l64_eq : lowFn Try.prog 64 = some l64 := by kernel_rfl
def l69r0 : List AOper :=
  [AOper.mk (some 4) (AOp.mv (Operand.const (Value.bool false))) none []]
def l69r1 : List AOper :=
  [AOper.mk (some 5) (AOp.mv (Operand.tmp 1)) none [],
            AOper.mk (some 6) (AOp.un UnOp.neg (Operand.tmp 5)) none [0],
            AOper.mk (some 7) (AOp.mv (Operand.tmp 0)) none [],
            AOper.mk (some 8) (AOp.bin BinOp.leq (Operand.tmp 6) (Operand.tmp 7)) none [1, 2],
            AOper.mk (some 9) (AOp.mv (Operand.tmp 8)) none [3],
            AOper.mk (some 10) (AOp.mv (Operand.tmp 0)) (some (9, true)) [4],
            AOper.mk (some 11) (AOp.mv (Operand.tmp 1)) (some (9, true)) [4],
            AOper.mk (some 12) (AOp.bin BinOp.leq (Operand.tmp 10) (Operand.tmp 11)) (some (9, true)) [5, 6, 4],
            AOper.mk (some 13) (AOp.pick (Operand.tmp 9) (Operand.tmp 12) (Operand.const (Value.bool false))) none
              [4, 7],
            AOper.mk (some 4) (AOp.mv (Operand.tmp 13)) none [8, 4, 0, 1, 2, 3, 4, 5, 6, 7, 8]]
def l69 : AFn :=
  (AFn.mk 14 2
    (ACode.seq (ACode.reg l69r0)
      (ACode.seq
        (ACode.reg l69r1)
        ACode.ret))
    [ARes.tmp 4])
theorem l69_eq : lowFn Try.prog 69 = some l69 := by kernel_rfl
def l77r0 : List AOper :=
  [AOper.mk (some 2) (AOp.mv (Operand.const (Value.bool false))) none []]
def l77r1 : List AOper :=
  [AOper.mk (some 3) (AOp.mv (Operand.tmp 0)) none [], AOper.mk (some 4) (AOp.len (Operand.tmp 3)) none [0],
            AOper.mk (some 5) (AOp.bin BinOp.leq (Operand.tmp 4) (Operand.const (Value.int IntKind.i64 4)))
              none [1],
            AOper.mk (some 6) (AOp.mv (Operand.tmp 5)) none [2],
            AOper.mk (some 7) (AOp.mv (Operand.tmp 0)) (some (6, true)) [3],
            AOper.mk (some 8)
              (AOp.call 78
                [Operand.tmp 7, Operand.const (Value.int IntKind.i64 0),
                  Operand.const (Value.int IntKind.i64 60)])
              (some (6, true)) [4, 3, 3],
            AOper.mk (some 9) (AOp.pick (Operand.tmp 6) (Operand.tmp 8) (Operand.const (Value.bool false))) none [3, 5],
            AOper.mk (some 10) (AOp.mv (Operand.tmp 9)) none [6, 5],
            AOper.mk (some 11) (AOp.mv (Operand.tmp 0)) (some (10, true)) [7],
            AOper.mk (some 12) (AOp.call 64 [Operand.tmp 11]) (some (10, true)) [8, 7, 7],
            AOper.mk (some 13)
              (AOp.bin BinOp.leq (Operand.tmp 12) (Operand.const (Value.int IntKind.i64 60)))
              (some (10, true)) [9, 7],
            AOper.mk (some 14) (AOp.pick (Operand.tmp 10) (Operand.tmp 13) (Operand.const (Value.bool false))) none
              [7, 10],
            AOper.mk (some 2) (AOp.mv (Operand.tmp 14)) none [11, 9, 0, 1, 2, 3, 4, 5, 6, 7, 8, 9, 10, 11]]
def l77 : AFn :=
  (AFn.mk 15 1
    (ACode.seq (ACode.reg l77r0)
      (ACode.seq
        (ACode.reg l77r1)
        ACode.ret))
    [ARes.tmp 2])
theorem l77_eq : lowFn Try.prog 77 = some l77 := by kernel_rfl
def l78r0 : List AOper :=
  [AOper.mk (some 6) (AOp.mv (Operand.const (Value.bool false))) none []]
def l78r1 : List AOper :=
  [AOper.mk (some 7) (AOp.mv (Operand.const (Value.int IntKind.i64 0))) none []]
def l78r2 : List AOper :=
  [AOper.mk (some 8) (AOp.mv (Operand.tmp 7)) none [],
                      AOper.mk (some 9) (AOp.mv (Operand.tmp 0)) none [],
                      AOper.mk (some 10) (AOp.len (Operand.tmp 9)) none [1],
                      AOper.mk (some 11) (AOp.bin BinOp.lss (Operand.tmp 8) (Operand.tmp 10)) none [0, 2]]
def l78r3 : List AOper :=
  [AOper.mk (some 14) (AOp.mv (Operand.tmp 0)) none [],
                          AOper.mk (some 15) (AOp.mv (Operand.tmp 7)) none [],
                          AOper.mk (some 16) (AOp.idxA 1 (Operand.tmp 14) (Operand.tmp 15)) none [0, 1],
                          AOper.mk (some 17) (AOp.load false 1 (Operand.tmp 16)) none [2],
                          AOper.mk (some 18) (AOp.mv (Operand.tmp 1)) none [],
                          AOper.mk (some 19) (AOp.mv (Operand.tmp 2)) none [],
                          AOper.mk (some 20) (AOp.call 48 [Operand.tmp 17, Operand.tmp 18, Operand.tmp 19]) none
                            [3, 4, 5],
                          AOper.mk (some 21) (AOp.un UnOp.not (Operand.tmp 20)) none [6]]
def l78r4 : List AOper :=
  [AOper.mk (some 6) (AOp.mv (Operand.const (Value.bool false))) none []]
def l78r5 : List AOper :=
  [AOper.mk (some 12) (AOp.mv (Operand.tmp 7)) none [],
                      AOper.mk (some 13)
                        (AOp.bin BinOp.add (Operand.tmp 12) (Operand.const (Value.int IntKind.i64 1))) none
                        [0],
                      AOper.mk (some 7) (AOp.mv (Operand.tmp 13)) none [1, 0, 1]]
def l78r6 : List AOper :=
  [AOper.mk (some 6) (AOp.mv (Operand.const (Value.bool true))) none []]
def l78 : AFn :=
  (AFn.mk 22 3
    (ACode.seq (ACode.reg l78r0)
      (ACode.seq
        (ACode.seq
          (ACode.reg l78r1)
          (ACode.block 0
            (ACode.loop
              (ACode.seq
                (ACode.seq
                  (ACode.reg l78r2)
                  (ACode.cond (Operand.tmp 11) ACode.skip (ACode.exit 0)))
                (ACode.seq
                  (ACode.block 1
                    (ACode.seq
                      (ACode.reg l78r3)
                      (ACode.cond (Operand.tmp 21)
                        (ACode.seq (ACode.reg l78r4)
                          ACode.ret)
                        ACode.skip)))
                  (ACode.reg l78r5))))))
        (ACode.seq (ACode.reg l78r6) ACode.ret)))
    [ARes.tmp 6])
theorem l78_eq : lowFn Try.prog 78 = some l78 := by kernel_rfl
def l79r0 : List AOper :=
  [AOper.mk (some 2) (AOp.mv (Operand.const (Value.int IntKind.i64 0))) none []]
def l79r1 : List AOper :=
  [AOper.mk (some 3) (AOp.mv (Operand.const (Value.int IntKind.i64 1))) none []]
def l79r2 : List AOper :=
  [AOper.mk (some 6) (AOp.mv (Operand.tmp 0)) none [], AOper.mk (some 7) (AOp.len (Operand.tmp 6)) none [0],
                AOper.mk (some 8) (AOp.mv (Operand.const (Value.int IntKind.i64 0))) none []]
def l79r3 : List AOper :=
  [AOper.mk (some 9) (AOp.bin BinOp.lss (Operand.tmp 8) (Operand.tmp 7)) none []]
def l79r4 : List AOper :=
  [AOper.mk (some 10) (AOp.idxA 1 (Operand.tmp 6) (Operand.tmp 8)) none [],
                              AOper.mk (some 11) (AOp.load false 1 (Operand.tmp 10)) none [0],
                              AOper.mk (some 5) (AOp.mv (Operand.tmp 11)) none [1, 0, 1]]
def l79r5 : List AOper :=
  [AOper.mk (some 12) (AOp.mv (Operand.tmp 3)) none [],
                              AOper.mk (some 13) (AOp.mv (Operand.tmp 5)) none [],
                              AOper.mk (some 14) (AOp.bin BinOp.mul (Operand.tmp 12) (Operand.tmp 13)) none [0, 1],
                              AOper.mk (some 3) (AOp.mv (Operand.tmp 14)) none [2, 0, 1, 2]]
def l79r6 : List AOper :=
  [AOper.mk (some 15)
                            (AOp.bin BinOp.add (Operand.tmp 8) (Operand.const (Value.int IntKind.i64 1)))
                            none [],
                          AOper.mk (some 8) (AOp.mv (Operand.tmp 15)) none [0]]
def l79r7 : List AOper :=
  [AOper.mk (some 16) (AOp.mv (Operand.tmp 3)) none [],
                AOper.mk (some 2) (AOp.mv (Operand.tmp 16)) none [0, 0]]
def l79 : AFn :=
  (AFn.mk 17 1
    (ACode.seq (ACode.reg l79r0)
      (ACode.seq (ACode.reg l79r1)
        (ACode.seq
          (ACode.seq
            (ACode.reg l79r2)
            (ACode.block 0
              (ACode.loop
                (ACode.seq (ACode.reg l79r3)
                  (ACode.seq (ACode.cond (Operand.tmp 9) ACode.skip (ACode.exit 0))
                    (ACode.seq
                      (ACode.block 1
                        (ACode.seq
                          (ACode.reg l79r4)
                          (ACode.reg l79r5)))
                      (ACode.reg l79r6)))))))
          (ACode.seq
            (ACode.reg l79r7)
            ACode.ret))))
    [ARes.tmp 2])
theorem l79_eq : lowFn Try.prog 79 = some l79 := by kernel_rfl
def l81r0 : List AOper :=
  [AOper.mk (some 4) (AOp.mv (Operand.const (Value.slice none 0 0))) none []]
def l81r1 : List AOper :=
  [AOper.mk (some 7) (AOp.mv (Operand.tmp 0)) none [], AOper.mk (some 8) (AOp.len (Operand.tmp 7)) none [0],
            AOper.mk (some 9) (AOp.mkslice 1 [Value.int IntKind.i64 0] (Operand.tmp 8) (Operand.tmp 8)) none
              [1, 1],
            AOper.mk (some 5) (AOp.mv (Operand.tmp 9)) none [2, 0, 1, 2]]
def l81r2 : List AOper :=
  [AOper.mk (some 10) (AOp.mv (Operand.tmp 0)) none [],
                AOper.mk (some 11) (AOp.len (Operand.tmp 10)) none [0],
                AOper.mk (some 12)
                  (AOp.bin BinOp.sub (Operand.tmp 11) (Operand.const (Value.int IntKind.i64 1))) none [1],
                AOper.mk (some 6) (AOp.mv (Operand.tmp 12)) none [2, 0, 1, 2]]
def l81r3 : List AOper :=
  [AOper.mk (some 13) (AOp.mv (Operand.tmp 6)) none [],
                        AOper.mk (some 14)
                          (AOp.bin BinOp.geq (Operand.tmp 13) (Operand.const (Value.int IntKind.i64 0)))
                          none [0]]
def l81r4 : List AOper :=
  [AOper.mk (some 17) (AOp.mv (Operand.tmp 5)) none [],
                            AOper.mk (some 18) (AOp.mv (Operand.tmp 6)) none [],
                            AOper.mk (some 19) (AOp.mv (Operand.tmp 1)) none [],
                            AOper.mk (some 20) (AOp.mv (Operand.tmp 0)) none [],
                            AOper.mk (some 21) (AOp.mv (Operand.tmp 6)) none [],
                            AOper.mk (some 22) (AOp.idxA 1 (Operand.tmp 20) (Operand.tmp 21)) none [3, 4],
                            AOper.mk (some 23) (AOp.load false 1 (Operand.tmp 22)) none [5],
                            AOper.mk (some 24) (AOp.bin BinOp.rem (Operand.tmp 19) (Operand.tmp 23)) none [2, 6],
                            AOper.mk (some 25) (AOp.idxA 1 (Operand.tmp 17) (Operand.tmp 18)) none
                              [0, 1, 0, 1, 2, 3, 4, 5, 6, 7],
                            AOper.mk none (AOp.store 1 (Operand.tmp 25) (Operand.tmp 24)) none
                              [8, 7, 0, 1, 2, 3, 4, 5, 6, 7]]
def l81r5 : List AOper :=
  [AOper.mk (some 26) (AOp.mv (Operand.tmp 1)) none [],
                            AOper.mk (some 27) (AOp.mv (Operand.tmp 0)) none [],
                            AOper.mk (some 28) (AOp.mv (Operand.tmp 6)) none [],
                            AOper.mk (some 29) (AOp.idxA 1 (Operand.tmp 27) (Operand.tmp 28)) none [1, 2],
                            AOper.mk (some 30) (AOp.load false 1 (Operand.tmp 29)) none [3],
                            AOper.mk (some 31) (AOp.bin BinOp.quo (Operand.tmp 26) (Operand.tmp 30)) none [0, 4],
                            AOper.mk (some 1) (AOp.mv (Operand.tmp 31)) none [5, 0, 1, 2, 3, 4, 5]]
def l81r6 : List AOper :=
  [AOper.mk (some 15) (AOp.mv (Operand.tmp 6)) none [],
                        AOper.mk (some 16)
                          (AOp.bin BinOp.sub (Operand.tmp 15) (Operand.const (Value.int IntKind.i64 1)))
                          none [0],
                        AOper.mk (some 6) (AOp.mv (Operand.tmp 16)) none [1, 0, 1]]
def l81r7 : List AOper :=
  [AOper.mk (some 32) (AOp.mv (Operand.tmp 5)) none [],
                AOper.mk (some 4) (AOp.mv (Operand.tmp 32)) none [0, 0]]
def l81 : AFn :=
  (AFn.mk 33 2
    (ACode.seq (ACode.reg l81r0)
      (ACode.seq
        (ACode.reg l81r1)
        (ACode.seq
          (ACode.seq
            (ACode.reg l81r2)
            (ACode.block 0
              (ACode.loop
                (ACode.seq
                  (ACode.seq
                    (ACode.reg l81r3)
                    (ACode.cond (Operand.tmp 14) ACode.skip (ACode.exit 0)))
                  (ACode.seq
                    (ACode.block 1
                      (ACode.seq
                        (ACode.reg l81r4)
                        (ACode.reg l81r5)))
                    (ACode.reg l81r6))))))
          (ACode.seq
            (ACode.reg l81r7)
            ACode.ret))))
    [ARes.tmp 4])
theorem l81_eq : lowFn Try.prog 81 = some l81 := by kernel_rfl
end Go.Proofs.Ytjnlcbjehhpjiaa
