import Derived.Test.YtjnlcbjehhpjiaaCVwR
import Derived.Test.YtjnlcbjehhpjiaaProg
import Derived.KernelRfl
set_option maxRecDepth 100000
namespace Go.Proofs.Ytjnlcbjehhpjiaa
open Vw Go
def l5r0 : List AOper :=
  [AOper.mk (some 2) (AOp.box (Operand.tmp 0)) none [],
          AOper.mk (some 4) (AOp.mv (Operand.const (Value.bool false))) none []]
def l5r1 : List AOper :=
  [AOper.mk (some 10) (AOp.load true 3 (Operand.tmp 2)) none [],
            AOper.mk (some 11) (AOp.call 12 [Operand.tmp 10]) none [0],
            AOper.mk (some 12) (AOp.mv (Operand.tmp 1)) none [],
            AOper.mk (some 13) (AOp.call 17 [Operand.tmp 11, Operand.tmp 12]) none [1, 2, 1],
            AOper.mk (some 5) (AOp.mv (Operand.tmp 13)) none [3, 3, 0, 1, 2, 3]]
def l5r2 : List AOper :=
  [AOper.mk (some 14) (AOp.load true 3 (Operand.tmp 2)) none [],
              AOper.mk (some 15) (AOp.call 12 [Operand.tmp 14]) none [0],
              AOper.mk (some 16) (AOp.mv (Operand.tmp 1)) none [],
              AOper.mk (some 17) (AOp.call 18 [Operand.tmp 15, Operand.tmp 16]) none [1, 2, 1],
              AOper.mk (some 6) (AOp.mv (Operand.tmp 17)) none [3, 3, 0, 1, 2, 3]]
def l5r3 : List AOper :=
  [AOper.mk (some 18) (AOp.mv (Operand.tmp 6)) none [],
                  AOper.mk (some 19) (AOp.mv (Operand.tmp 5)) none [],
                  AOper.mk (some 20) (AOp.call 19 [Operand.tmp 18, Operand.tmp 19]) none [0, 1],
                  AOper.mk (some 21) (AOp.un UnOp.not (Operand.tmp 20)) none [2]]
def l5r4 : List AOper :=
  [AOper.mk (some 4) (AOp.mv (Operand.const (Value.bool false))) none []]
def l5r5 : List AOper :=
  [AOper.mk (some 7) (AOp.mv (Operand.const (Value.int IntKind.i64 1))) none []]
def l5r6 : List AOper :=
  [AOper.mk (some 22) (AOp.mv (Operand.tmp 6)) none [],
                    AOper.mk (some 23) (AOp.mv (Operand.tmp 7)) none [],
                    AOper.mk (some 24) (AOp.call 20 [Operand.tmp 22, Operand.tmp 23]) none [0, 1],
                    AOper.mk (some 7) (AOp.mv (Operand.tmp 24)) none [2, 2, 0, 1, 2]]
def l5r7 : List AOper :=
  [AOper.mk (some 8) (AOp.mv (Operand.const (Value.int IntKind.i64 1))) none []]
def l5r8 : List AOper :=
  [AOper.mk (some 25) (AOp.mv (Operand.tmp 6)) none [],
                        AOper.mk (some 26) (AOp.mv (Operand.tmp 8)) none [],
                        AOper.mk (some 27) (AOp.call 21 [Operand.tmp 25, Operand.tmp 26]) none [0, 1],
                        AOper.mk (some 8) (AOp.mv (Operand.tmp 27)) none [2, 2, 0, 1, 2]]
def l5r9 : List AOper :=
  [AOper.mk (some 28) (AOp.mv (Operand.tmp 8)) none [],
                            AOper.mk (some 29)
                              (AOp.bin BinOp.lss (Operand.tmp 28) (Operand.const (Value.int IntKind.i64 0)))
                              none [0]]
def l5r10 : List AOper :=
  [AOper.mk (some 4) (AOp.mv (Operand.const (Value.bool false))) none []]
def l5r11 : List AOper :=
  [AOper.mk (some 30) (AOp.mv (Operand.tmp 8)) none [],
                              AOper.mk (some 31) (AOp.mv (Operand.tmp 7)) none [],
                              AOper.mk (some 32) (AOp.bin BinOp.neq (Operand.tmp 30) (Operand.tmp 31)) none [0, 1]]
def l5r12 : List AOper :=
  [AOper.mk (some 4) (AOp.mv (Operand.const (Value.bool false))) none []]
def l5r13 : List AOper :=
  [AOper.mk (some 33) (AOp.load true 3 (Operand.tmp 2)) none [],
                              AOper.mk (some 34) (AOp.call 12 [Operand.tmp 33]) none [0],
                              AOper.mk (some 35) (AOp.mv (Operand.tmp 1)) none [],
                              AOper.mk (some 36) (AOp.call 18 [Operand.tmp 34, Operand.tmp 35]) none [1, 2, 1],
                              AOper.mk (some 9) (AOp.mv (Operand.tmp 36)) none [3, 3, 0, 1, 2, 3]]
def l5r14 : List AOper :=
  [AOper.mk (some 37) (AOp.mv (Operand.tmp 9)) none [],
                                  AOper.mk (some 38) (AOp.mv (Operand.tmp 5)) none [],
                                  AOper.mk (some 39) (AOp.call 19 [Operand.tmp 37, Operand.tmp 38]) none [0, 1],
                                  AOper.mk (some 40) (AOp.un UnOp.not (Operand.tmp 39)) none [2]]
def l5r15 : List AOper :=
  [AOper.mk (some 4) (AOp.mv (Operand.const (Value.bool false))) none []]
def l5r16 : List AOper :=
  [AOper.mk (some 8) (AOp.mv (Operand.const (Value.int IntKind.i64 1))) none
                                    []]
def l5r17 : List AOper :=
  [AOper.mk (some 41) (AOp.mv (Operand.tmp 6)) none [],
                                    AOper.mk (some 42) (AOp.mv (Operand.tmp 8)) none [],
                                    AOper.mk (some 43) (AOp.call 21 [Operand.tmp 41, Operand.tmp 42]) none [0, 1],
                                    AOper.mk (some 8) (AOp.mv (Operand.tmp 43)) none [2, 2, 0, 1, 2]]
def l5r18 : List AOper :=
  [AOper.mk (some 44) (AOp.mv (Operand.tmp 8)) none [],
                                        AOper.mk (some 45)
                                          (AOp.bin BinOp.lss (Operand.tmp 44)
                                            (Operand.const (Value.int IntKind.i64 0)))
                                          none [0]]
def l5r19 : List AOper :=
  [AOper.mk (some 4) (AOp.mv (Operand.const (Value.bool false))) none []]
def l5r20 : List AOper :=
  [AOper.mk (some 46) (AOp.mv (Operand.tmp 8)) none [],
                                          AOper.mk (some 47) (AOp.mv (Operand.tmp 7)) none [],
                                          AOper.mk (some 48) (AOp.bin BinOp.neq (Operand.tmp 46) (Operand.tmp 47)) none
                                            [0, 1]]
def l5r21 : List AOper :=
  [AOper.mk (some 4) (AOp.mv (Operand.const (Value.bool false))) none []]
def l5r22 : List AOper :=
  [AOper.mk (some 4) (AOp.mv (Operand.const (Value.bool true))) none []]
def l5 : AFn :=
  (AFn.mk 49 2
    (ACode.seq
      (ACode.reg l5r0)
      (ACode.seq
        (ACode.reg l5r1)
        (ACode.seq
          (ACode.reg l5r2)
          (ACode.seq
            (ACode.seq
              (ACode.reg l5r3)
              (ACode.cond (Operand.tmp 21)
                (ACode.seq (ACode.reg l5r4)
                  ACode.ret)
                ACode.skip))
            (ACode.seq
              (ACode.reg l5r5)
              (ACode.seq
                (ACode.reg l5r6)
                (ACode.seq
                  (ACode.reg l5r7)
                  (ACode.seq
                    (ACode.reg l5r8)
                    (ACode.seq
                      (ACode.seq
                        (ACode.reg l5r9)
                        (ACode.cond (Operand.tmp 29)
                          (ACode.seq (ACode.reg l5r10)
                            ACode.ret)
                          ACode.skip))
                      (ACode.seq
                        (ACode.seq
                          (ACode.reg l5r11)
                          (ACode.cond (Operand.tmp 32)
                            (ACode.seq
                              (ACode.reg l5r12)
                              ACode.ret)
                            ACode.skip))
                        (ACode.seq
                          (ACode.reg l5r13)
                          (ACode.seq
                            (ACode.seq
                              (ACode.reg l5r14)
                              (ACode.cond (Operand.tmp 40)
                                (ACode.seq
                                  (ACode.reg l5r15)
                                  ACode.ret)
                                ACode.skip))
                            (ACode.seq
                              (ACode.reg l5r16)
                              (ACode.seq
                                (ACode.reg l5r17)
                                (ACode.seq
                                  (ACode.seq
                                    (ACode.reg l5r18)
                                    (ACode.cond (Operand.tmp 45)
                                      (ACode.seq
                                        (ACode.reg l5r19)
                                        ACode.ret)
                                      ACode.skip))
                                  (ACode.seq
                                    (ACode.seq
                                      (ACode.reg l5r20)
                                      (ACode.cond (Operand.tmp 48)
                                        (ACode.seq
                                          (ACode.reg l5r21)
                                          ACode.ret)
                                        ACode.skip))
                                    (ACode.seq
                                      (ACode.reg l5r22)
                                      ACode.ret)))))))))))))))))
    [ARes.tmp 4])
theorem l5_eq : lowFn Try.prog 5 = some l5 := by kernel_rfl
def l12r0 : List AOper :=
  [AOper.mk (some 1) (AOp.box (Operand.tmp 0)) none [],
          AOper.mk (some 2)
            (AOp.alloc
              [Value.int IntKind.i64 0, Value.int IntKind.i64 0,
                Value.int IntKind.i64 0])
            none []]
def l12r1 : List AOper :=
  [AOper.mk (some 3)
              (AOp.alloc
                [Value.int IntKind.i64 0, Value.int IntKind.i64 0,
                  Value.int IntKind.i64 0])
              none []]
def l12r2 : List AOper :=
  [AOper.mk (some 4) (AOp.fld 0 (Operand.tmp 1)) none [],
              AOper.mk (some 5) (AOp.load false 1 (Operand.tmp 4)) none [0],
              AOper.mk (some 6) (AOp.fld 0 (Operand.tmp 3)) none [0, 1],
              AOper.mk none (AOp.store 1 (Operand.tmp 6) (Operand.tmp 5)) none [2, 1, 0, 1]]
def l12r3 : List AOper :=
  [AOper.mk (some 7) (AOp.fld 1 (Operand.tmp 1)) none [],
                AOper.mk (some 8) (AOp.load false 1 (Operand.tmp 7)) none [0],
                AOper.mk (some 9) (AOp.fld 1 (Operand.tmp 3)) none [0, 1],
                AOper.mk none (AOp.store 1 (Operand.tmp 9) (Operand.tmp 8)) none [2, 1, 0, 1]]
def l12r4 : List AOper :=
  [AOper.mk (some 10) (AOp.fld 2 (Operand.tmp 1)) none [],
                  AOper.mk (some 11) (AOp.load false 1 (Operand.tmp 10)) none [0],
                  AOper.mk (some 12) (AOp.fld 2 (Operand.tmp 3)) none [0, 1],
                  AOper.mk none (AOp.store 1 (Operand.tmp 12) (Operand.tmp 11)) none [2, 1, 0, 1]]
def l12r5 : List AOper :=
  [AOper.mk (some 13) (AOp.load true 3 (Operand.tmp 3)) none [],
                    AOper.mk none (AOp.store 3 (Operand.tmp 2) (Operand.tmp 13)) none [0, 0]]
def l12 : AFn :=
  (AFn.mk 14 1
    (ACode.seq
      (ACode.reg l12r0)
      (ACode.seq
        (ACode.reg l12r1)
        (ACode.seq
          (ACode.reg l12r2)
          (ACode.seq
            (ACode.reg l12r3)
            (ACode.seq
              (ACode.reg l12r4)
              (ACode.seq
                (ACode.reg l12r5)
                ACode.ret))))))
    [ARes.cell 2 true 3])
theorem l12_eq : lowFn Try.prog 12 = some l12 := by kernel_rfl
def l14r0 : List AOper :=
  [AOper.mk (some 2) (AOp.box (Operand.tmp 0)) none [], AOper.mk (some 3) (AOp.box (Operand.tmp 1)) none [],
          AOper.mk (some 4) (AOp.mv (Operand.const (Value.bool false))) none []]
def l14r1 : List AOper :=
  [AOper.mk (some 5) (AOp.fld 0 (Operand.tmp 2)) none [],
              AOper.mk (some 6) (AOp.load false 1 (Operand.tmp 5)) none [0],
              AOper.mk (some 7) (AOp.fld 0 (Operand.tmp 3)) none [],
              AOper.mk (some 8) (AOp.load false 1 (Operand.tmp 7)) none [2],
              AOper.mk (some 9) (AOp.bin BinOp.neq (Operand.tmp 6) (Operand.tmp 8)) none [1, 3]]
def l14r2 : List AOper :=
  [AOper.mk (some 4) (AOp.mv (Operand.const (Value.bool false))) none []]
def l14r3 : List AOper :=
  [AOper.mk (some 10) (AOp.fld 1 (Operand.tmp 2)) none [],
                AOper.mk (some 11) (AOp.load false 1 (Operand.tmp 10)) none [0],
                AOper.mk (some 12) (AOp.fld 1 (Operand.tmp 3)) none [],
                AOper.mk (some 13) (AOp.load false 1 (Operand.tmp 12)) none [2],
                AOper.mk (some 14) (AOp.bin BinOp.neq (Operand.tmp 11) (Operand.tmp 13)) none [1, 3]]
def l14r4 : List AOper :=
  [AOper.mk (some 4) (AOp.mv (Operand.const (Value.bool false))) none []]
def l14r5 : List AOper :=
  [AOper.mk (some 15) (AOp.fld 2 (Operand.tmp 2)) none [],
                  AOper.mk (some 16) (AOp.load false 1 (Operand.tmp 15)) none [0],
                  AOper.mk (some 17) (AOp.fld 2 (Operand.tmp 3)) none [],
                  AOper.mk (some 18) (AOp.load false 1 (Operand.tmp 17)) none [2],
                  AOper.mk (some 19) (AOp.bin BinOp.neq (Operand.tmp 16) (Operand.tmp 18)) none [1, 3]]
def l14r6 : List AOper :=
  [AOper.mk (some 4) (AOp.mv (Operand.const (Value.bool false))) none []]
def l14r7 : List AOper :=
  [AOper.mk (some 4) (AOp.mv (Operand.const (Value.bool true))) none []]
def l14 : AFn :=
  (AFn.mk 20 2
    (ACode.seq
      (ACode.reg l14r0)
      (ACode.seq
        (ACode.seq
          (ACode.reg l14r1)
          (ACode.cond (Operand.tmp 9)
            (ACode.seq (ACode.reg l14r2) ACode.ret)
            ACode.skip))
        (ACode.seq
          (ACode.seq
            (ACode.reg l14r3)
            (ACode.cond (Operand.tmp 14)
              (ACode.seq (ACode.reg l14r4) ACode.ret)
              ACode.skip))
          (ACode.seq
            (ACode.seq
              (ACode.reg l14r5)
              (ACode.cond (Operand.tmp 19)
                (ACode.seq (ACode.reg l14r6)
                  ACode.ret)
                ACode.skip))
            (ACode.seq (ACode.reg l14r7) ACode.ret)))))
    [ARes.tmp 4])
theorem l14_eq : lowFn Try.prog 14 = some l14 := by kernel_rfl
def l17r0 : List AOper :=
  [AOper.mk (some 2) (AOp.box (Operand.tmp 0)) none [],
          AOper.mk (some 4) (AOp.mv (Operand.const (Value.slice none 0 0))) none []]
def l17r1 : List AOper :=
  [AOper.mk (some 10) (AOp.load true 3 (Operand.tmp 2)) none [],
              AOper.mk (some 11) (AOp.call 40 [Operand.tmp 10]) none [0],
              AOper.mk (some 12) (AOp.un UnOp.not (Operand.tmp 11)) none [1],
              AOper.mk (some 13) (AOp.mv (Operand.tmp 12)) none [2, 1],
              AOper.mk (some 14) (AOp.mv (Operand.tmp 1)) (some (13, false)) [3],
              AOper.mk (some 15)
                (AOp.call 48
                  [Operand.tmp 14, Operand.const (Value.int IntKind.i64 1),
                    Operand.const (Value.int IntKind.i64 6)])
                (some (13, false)) [4, 3, 3],
              AOper.mk (some 16) (AOp.un UnOp.not (Operand.tmp 15)) (some (13, false)) [5, 3],
              AOper.mk (some 17) (AOp.pick (Operand.tmp 13) (Operand.const (Value.bool true)) (Operand.tmp 16)) none
                [3, 6]]
def l17r2 : List AOper :=
  [AOper.mk (some 4) (AOp.mv (Operand.const (Value.slice none 0 0))) none []]
def l17r3 : List AOper :=
  [AOper.mk (some 18)
                (AOp.bslice 3
                  [Value.int IntKind.i64 0, Value.int IntKind.i64 0,
                    Value.int IntKind.i64 0]
                  [] 0)
                none [],
              AOper.mk (some 5) (AOp.mv (Operand.tmp 18)) none [0, 0]]
def l17r4 : List AOper :=
  [AOper.mk (some 19) (AOp.load true 3 (Operand.tmp 2)) none [],
                AOper.mk (some 20) (AOp.call 44 [Operand.tmp 19]) none [0],
                AOper.mk (some 6) (AOp.mv (Operand.tmp 20)) none [1, 1, 0, 1]]
def l17r5 : List AOper :=
  [AOper.mk (some 7) (AOp.mv (Operand.const (Value.int IntKind.i64 0))) none []]
def l17r6 : List AOper :=
  [AOper.mk (some 21) (AOp.mv (Operand.tmp 7)) none [],
                            AOper.mk (some 22) (AOp.mv (Operand.tmp 1)) none [],
                            AOper.mk (some 23) (AOp.bin BinOp.lss (Operand.tmp 21) (Operand.tmp 22)) none [0, 1]]
def l17r7 : List AOper :=
  [AOper.mk (some 26) (AOp.bslice 1 [Value.int IntKind.i64 0] [] 0) none [],
                                AOper.mk (some 8) (AOp.mv (Operand.tmp 26)) none [0, 0]]
def l17r8 : List AOper :=
  [AOper.mk (some 27) (AOp.mv (Operand.tmp 7)) none [],
                                    AOper.mk (some 9) (AOp.mv (Operand.tmp 27)) none [0, 0]]
def l17r9 : List AOper :=
  [AOper.mk (some 28) (AOp.mv (Operand.tmp 9)) none [],
                                            AOper.mk (some 29) (AOp.mv (Operand.tmp 6)) none [],
                                            AOper.mk (some 30) (AOp.len (Operand.tmp 29)) none [1],
                                            AOper.mk (some 31) (AOp.bin BinOp.lss (Operand.tmp 28) (Operand.tmp 30))
                                              none [0, 2]]
def l17r10 : List AOper :=
  [AOper.mk (some 35) (AOp.mv (Operand.tmp 8)) none [],
                                              AOper.mk (some 36) (AOp.mv (Operand.tmp 6)) none [],
                                              AOper.mk (some 37) (AOp.mv (Operand.tmp 9)) none [],
                                              AOper.mk (some 38) (AOp.idxA 1 (Operand.tmp 36) (Operand.tmp 37)) none
                                                [1, 2],
                                              AOper.mk (some 39) (AOp.load false 1 (Operand.tmp 38)) none [3],
                                              AOper.mk (some 40)
                                                (AOp.bslice 1 [Value.int IntKind.i64 0]
                                                  [(0, Operand.tmp 39)] 1)
                                                none [4],
                                              AOper.mk (some 41) (AOp.append 1 (Operand.tmp 35) (Operand.tmp 40)) none
                                                [0, 5],
                                              AOper.mk (some 8) (AOp.mv (Operand.tmp 41)) none
                                                [6, 6, 0, 1, 2, 3, 4, 5, 6]]
def l17r11 : List AOper :=
  [AOper.mk (some 32) (AOp.mv (Operand.tmp 9)) none [],
                                            AOper.mk (some 33) (AOp.mv (Operand.tmp 1)) none [],
                                            AOper.mk (some 34) (AOp.bin BinOp.add (Operand.tmp 32) (Operand.tmp 33))
                                              none [0, 1],
                                            AOper.mk (some 9) (AOp.mv (Operand.tmp 34)) none [2, 0, 1, 2]]
def l17r12 : List AOper :=
  [AOper.mk (some 42) (AOp.mv (Operand.tmp 5)) none [],
                                  AOper.mk (some 43) (AOp.mv (Operand.tmp 8)) none [],
                                  AOper.mk (some 44) (AOp.call 41 [Operand.tmp 43]) none [1],
                                  AOper.mk (some 45)
                                    (AOp.bslice 3
                                      [Value.int IntKind.i64 0, Value.int IntKind.i64 0,
                                        Value.int IntKind.i64 0]
                                      [(0, Operand.tmp 44)] 1)
                                    none [2],
                                  AOper.mk (some 46) (AOp.append 3 (Operand.tmp 42) (Operand.tmp 45)) none [0, 3, 2],
                                  AOper.mk (some 5) (AOp.mv (Operand.tmp 46)) none [4, 4, 0, 1, 2, 3, 4]]
def l17r13 : List AOper :=
  [AOper.mk (some 24) (AOp.mv (Operand.tmp 7)) none [],
                            AOper.mk (some 25)
                              (AOp.bin BinOp.add (Operand.tmp 24) (Operand.const (Value.int IntKind.i64 1)))
                              none [0],
                            AOper.mk (some 7) (AOp.mv (Operand.tmp 25)) none [1, 0, 1]]
def l17r14 : List AOper :=
  [AOper.mk (some 47) (AOp.mv (Operand.tmp 5)) none [],
                    AOper.mk (some 4) (AOp.mv (Operand.tmp 47)) none [0, 0]]
def l17 : AFn :=
  (AFn.mk 48 2
    (ACode.seq
      (ACode.reg l17r0)
      (ACode.seq
        (ACode.seq
          (ACode.reg l17r1)
          (ACode.cond (Operand.tmp 17)
            (ACode.seq (ACode.reg l17r2)
              ACode.ret)
            ACode.skip))
        (ACode.seq
          (ACode.reg l17r3)
          (ACode.seq
            (ACode.reg l17r4)
            (ACode.seq
              (ACode.seq
                (ACode.reg l17r5)
                (ACode.block 0
                  (ACode.loop
                    (ACode.seq
                      (ACode.seq
                        (ACode.reg l17r6)
                        (ACode.cond (Operand.tmp 23) ACode.skip (ACode.exit 0)))
                      (ACode.seq
                        (ACode.block 1
                          (ACode.seq
                            (ACode.reg l17r7)
                            (ACode.seq
                              (ACode.seq
                                (ACode.reg l17r8)
                                (ACode.block 2
                                  (ACode.loop
                                    (ACode.seq
                                      (ACode.seq
                                        (ACode.reg l17r9)
                                        (ACode.cond (Operand.tmp 31) ACode.skip (ACode.exit 2)))
                                      (ACode.seq
                                        (ACode.block 3
                                          (ACode.reg l17r10))
                                        (ACode.reg l17r11))))))
                              (ACode.reg l17r12))))
                        (ACode.reg l17r13))))))
              (ACode.seq
                (ACode.reg l17r14)
                ACode.ret))))))
    [ARes.tmp 4])
theorem l17_eq : lowFn Try.prog 17 = some l17 := by kernel_rfl
def l18r0 : List AOper :=
  [AOper.mk (some 2) (AOp.box (Operand.tmp 0)) none [],
          AOper.mk (some 4) (AOp.mv (Operand.const (Value.slice none 0 0))) none []]
def l18r1 : List AOper :=
  [AOper.mk (some 7) (AOp.load true 3 (Operand.tmp 2)) none [],
              AOper.mk (some 8) (AOp.call 45 [Operand.tmp 7]) none [0],
              AOper.mk (some 9) (AOp.un UnOp.not (Operand.tmp 8)) none [1],
              AOper.mk (some 10) (AOp.mv (Operand.tmp 9)) none [2, 1],
              AOper.mk (some 11) (AOp.mv (Operand.tmp 1)) (some (10, false)) [3],
              AOper.mk (some 12)
                (AOp.bin BinOp.lss (Operand.tmp 11) (Operand.const (Value.int IntKind.i64 1)))
                (some (10, false)) [4, 3],
              AOper.mk (some 13) (AOp.pick (Operand.tmp 10) (Operand.const (Value.bool true)) (Operand.tmp 12)) none
                [3, 5],
              AOper.mk (some 14) (AOp.mv (Operand.tmp 13)) none [6, 3],
              AOper.mk (some 15) (AOp.mv (Operand.tmp 1)) (some (14, false)) [7],
              AOper.mk (some 16)
                (AOp.bin BinOp.gtr (Operand.tmp 15) (Operand.const (Value.int IntKind.i64 6)))
                (some (14, false)) [8, 7],
              AOper.mk (some 17) (AOp.pick (Operand.tmp 14) (Operand.const (Value.bool true)) (Operand.tmp 16)) none
                [7, 9]]
def l18r2 : List AOper :=
  [AOper.mk (some 4) (AOp.mv (Operand.const (Value.slice none 0 0))) none []]
def l18r3 : List AOper :=
  [AOper.mk (some 18) (AOp.mv (Operand.tmp 1)) none [],
              AOper.mk (some 19)
                (AOp.mkslice 3
                  [Value.int IntKind.i64 0, Value.int IntKind.i64 0,
                    Value.int IntKind.i64 0]
                  (Operand.tmp 18) (Operand.tmp 18))
                none [0, 0],
              AOper.mk (some 5) (AOp.mv (Operand.tmp 19)) none [1, 0, 1]]
def l18r4 : List AOper :=
  [AOper.mk (some 20) (AOp.mv (Operand.tmp 5)) none [],
                  AOper.mk (some 21) (AOp.len (Operand.tmp 20)) none [0],
                  AOper.mk (some 22) (AOp.mv (Operand.const (Value.int IntKind.i64 0))) none []]
def l18r5 : List AOper :=
  [AOper.mk (some 23) (AOp.bin BinOp.lss (Operand.tmp 22) (Operand.tmp 21)) none []]
def l18r6 : List AOper :=
  [AOper.mk (some 24) (AOp.mv (Operand.tmp 22)) none [],
                                AOper.mk (some 6) (AOp.mv (Operand.tmp 24)) none [0, 0]]
def l18r7a : List AOper :=
  [AOper.mk (some 25) (AOp.mv (Operand.tmp 5)) none [], AOper.mk (some 26) (AOp.mv (Operand.tmp 6)) none [], AOper.mk (some 27) (AOp.load true 3 (Operand.tmp 2)) none [], AOper.mk (some 28) (AOp.mv (Operand.tmp 6)) none [], AOper.mk (some 29) (AOp.load true 3 (Operand.tmp 2)) none [], AOper.mk (some 30) (AOp.call 50 [Operand.tmp 29]) none [4], AOper.mk (some 31) (AOp.mv (Operand.tmp 1)) none [], AOper.mk (some 32)
                                  (AOp.build
                                    [Value.int IntKind.i64 0, Value.int IntKind.i64 0,
                                      Value.int IntKind.i64 0]
                                    [(0, 1, Operand.tmp 28), (1, 1, Operand.tmp 30), (2, 1, Operand.tmp 31)])
                                  none [3, 5, 6], AOper.mk (some 33) (AOp.call 49 [Operand.tmp 27, Operand.tmp 32]) none [2, 7, 5]]
def l18r7b : List AOper :=
  [AOper.mk (some 34) (AOp.idxA 3 (Operand.tmp 25) (Operand.tmp 26)) none
                                  [0, 1, 0, 1, 2, 3, 4, 5, 6, 7, 8], AOper.mk none (AOp.store 3 (Operand.tmp 34) (Operand.tmp 33)) none
                                  [9, 8, 8, 0, 1, 2, 3, 4, 5, 6, 7, 8]]
def l18r7 : List AOper := l18r7a ++ l18r7b
def l18r8 : List AOper :=
  [AOper.mk (some 35)
                              (AOp.bin BinOp.add (Operand.tmp 22) (Operand.const (Value.int IntKind.i64 1)))
                              none [],
                            AOper.mk (some 22) (AOp.mv (Operand.tmp 35)) none [0]]
def l18r9 : List AOper :=
  [AOper.mk (some 36) (AOp.mv (Operand.tmp 5)) none [],
                  AOper.mk (some 4) (AOp.mv (Operand.tmp 36)) none [0, 0]]
def l18 : AFn :=
  (AFn.mk 37 2
    (ACode.seq
      (ACode.reg l18r0)
      (ACode.seq
        (ACode.seq
          (ACode.reg l18r1)
          (ACode.cond (Operand.tmp 17)
            (ACode.seq (ACode.reg l18r2)
              ACode.ret)
            ACode.skip))
        (ACode.seq
          (ACode.reg l18r3)
          (ACode.seq
            (ACode.seq
              (ACode.reg l18r4)
              (ACode.block 0
                (ACode.loop
                  (ACode.seq
                    (ACode.reg l18r5)
                    (ACode.seq (ACode.cond (Operand.tmp 23) ACode.skip (ACode.exit 0))
                      (ACode.seq
                        (ACode.block 1
                          (ACode.seq
                            (ACode.reg l18r6)
                            (ACode.draw l18r7)))
                        (ACode.reg l18r8)))))))
            (ACode.seq
              (ACode.reg l18r9)
              ACode.ret)))))
    [ARes.tmp 4])
theorem l18_eq : lowFn Try.prog 18 = some l18 := by kernel_rfl
def l19r0 : List AOper :=
  [AOper.mk (some 4) (AOp.mv (Operand.const (Value.bool false))) none []]
def l19r1 : List AOper :=
  [AOper.mk (some 6) (AOp.mv (Operand.tmp 0)) none [], AOper.mk (some 7) (AOp.len (Operand.tmp 6)) none [0],
              AOper.mk (some 8) (AOp.mv (Operand.tmp 1)) none [], AOper.mk (some 9) (AOp.len (Operand.tmp 8)) none [2],
              AOper.mk (some 10) (AOp.bin BinOp.neq (Operand.tmp 7) (Operand.tmp 9)) none [1, 3]]
def l19r2 : List AOper :=
  [AOper.mk (some 4) (AOp.mv (Operand.const (Value.bool false))) none []]
def l19r3 : List AOper :=
  [AOper.mk (some 5) (AOp.mv (Operand.const (Value.int IntKind.i64 0))) none []]
def l19r4 : List AOper :=
  [AOper.mk (some 11) (AOp.mv (Operand.tmp 5)) none [],
                        AOper.mk (some 12) (AOp.mv (Operand.tmp 0)) none [],
                        AOper.mk (some 13) (AOp.len (Operand.tmp 12)) none [1],
                        AOper.mk (some 14) (AOp.bin BinOp.lss (Operand.tmp 11) (Operand.tmp 13)) none [0, 2]]
def l19r5a : List AOper :=
  [AOper.mk (some 17) (AOp.mv (Operand.tmp 0)) none [], AOper.mk (some 18) (AOp.mv (Operand.tmp 5)) none [], AOper.mk (some 19) (AOp.idxA 3 (Operand.tmp 17) (Operand.tmp 18)) none [0, 1], AOper.mk (some 20) (AOp.load true 3 (Operand.tmp 19)) none [2], AOper.mk (some 21) (AOp.mv (Operand.tmp 1)) none [], AOper.mk (some 22) (AOp.mv (Operand.tmp 5)) none [], AOper.mk (some 23) (AOp.idxA 3 (Operand.tmp 21) (Operand.tmp 22)) none [4, 5], AOper.mk (some 24) (AOp.load true 3 (Operand.tmp 23)) none [6]]
def l19r5b : List AOper :=
  [AOper.mk (some 25) (AOp.call 14 [Operand.tmp 20, Operand.tmp 24]) none [3, 7], AOper.mk (some 26) (AOp.un UnOp.not (Operand.tmp 25)) none [8]]
def l19r5 : List AOper := l19r5a ++ l19r5b
def l19r6 : List AOper :=
  [AOper.mk (some 4) (AOp.mv (Operand.const (Value.bool false))) none []]
def l19r7 : List AOper :=
  [AOper.mk (some 15) (AOp.mv (Operand.tmp 5)) none [],
                        AOper.mk (some 16)
                          (AOp.bin BinOp.add (Operand.tmp 15) (Operand.const (Value.int IntKind.i64 1)))
                          none [0],
                        AOper.mk (some 5) (AOp.mv (Operand.tmp 16)) none [1, 0, 1]]
def l19r8 : List AOper :=
  [AOper.mk (some 4) (AOp.mv (Operand.const (Value.bool true))) none []]
def l19 : AFn :=
  (AFn.mk 27 2
    (ACode.seq (ACode.reg l19r0)
      (ACode.seq
        (ACode.seq
          (ACode.reg l19r1)
          (ACode.cond (Operand.tmp 10)
            (ACode.seq (ACode.reg l19r2) ACode.ret)
            ACode.skip))
        (ACode.seq
          (ACode.seq
            (ACode.reg l19r3)
            (ACode.block 0
              (ACode.loop
                (ACode.seq
                  (ACode.seq
                    (ACode.reg l19r4)
                    (ACode.cond (Operand.tmp 14) ACode.skip (ACode.exit 0)))
                  (ACode.seq
                    (ACode.block 1
                      (ACode.seq
                        (ACode.draw l19r5)
                        (ACode.cond (Operand.tmp 26)
                          (ACode.seq (ACode.reg l19r6)
                            ACode.ret)
                          ACode.skip)))
                    (ACode.reg l19r7))))))
          (ACode.seq (ACode.reg l19r8) ACode.ret))))
    [ARes.tmp 4])
theorem l19_eq : lowFn Try.prog 19 = some l19 := by kernel_rfl
def l20r0 : List AOper :=
  [AOper.mk (some 4) (AOp.mv (Operand.const (Value.int IntKind.i64 0))) none []]
def l20r1 : List AOper :=
  [AOper.mk (some 5) (AOp.mv (Operand.const (Value.int IntKind.i64 0))) none []]
def l20r2 : List AOper :=
  [AOper.mk (some 6) (AOp.mv (Operand.tmp 5)) none [],
                      AOper.mk (some 7) (AOp.mv (Operand.tmp 0)) none [],
                      AOper.mk (some 8) (AOp.len (Operand.tmp 7)) none [1],
                      AOper.mk (some 9) (AOp.bin BinOp.lss (Operand.tmp 6) (Operand.tmp 8)) none [0, 2]]
def l20r3 : List AOper :=
  [AOper.mk (some 12) (AOp.mv (Operand.tmp 0)) none [],
                          AOper.mk (some 13) (AOp.mv (Operand.tmp 5)) none [],
                          AOper.mk (some 14) (AOp.mv (Operand.tmp 1)) none [],
                          AOper.mk (some 15) (AOp.idxA 3 (Operand.tmp 12) (Operand.tmp 13)) none [0, 1, 0, 1, 2],
                          AOper.mk (some 16) (AOp.fld 0 (Operand.tmp 15)) none [3, 0, 1, 2],
                          AOper.mk none (AOp.store 1 (Operand.tmp 16) (Operand.tmp 14)) none [4, 2, 0, 1, 2]]
def l20r4 : List AOper :=
  [AOper.mk (some 17) (AOp.mv (Operand.tmp 1)) none [],
                            AOper.mk (some 18)
                              (AOp.bin BinOp.add (Operand.tmp 17) (Operand.const (Value.int IntKind.i64 1)))
                              none [0],
                            AOper.mk (some 1) (AOp.mv (Operand.tmp 18)) none [1, 0, 1]]
def l20r5 : List AOper :=
  [AOper.mk (some 19) (AOp.mv (Operand.tmp 0)) none [],
                              AOper.mk (some 20) (AOp.mv (Operand.tmp 5)) none [],
                              AOper.mk (some 21) (AOp.mv (Operand.tmp 1)) none [],
                              AOper.mk (some 22) (AOp.idxA 3 (Operand.tmp 19) (Operand.tmp 20)) none [0, 1, 0, 1, 2],
                              AOper.mk (some 23) (AOp.fld 1 (Operand.tmp 22)) none [3, 0, 1, 2],
                              AOper.mk none (AOp.store 1 (Operand.tmp 23) (Operand.tmp 21)) none [4, 2, 0, 1, 2]]
def l20r6 : List AOper :=
  [AOper.mk (some 24) (AOp.mv (Operand.tmp 1)) none [],
                                AOper.mk (some 25)
                                  (AOp.bin BinOp.add (Operand.tmp 24)
                                    (Operand.const (Value.int IntKind.i64 1)))
                                  none [0],
                                AOper.mk (some 1) (AOp.mv (Operand.tmp 25)) none [1, 0, 1]]
def l20r7 : List AOper :=
  [AOper.mk (some 26) (AOp.mv (Operand.tmp 0)) none [],
                                  AOper.mk (some 27) (AOp.mv (Operand.tmp 5)) none [],
                                  AOper.mk (some 28) (AOp.mv (Operand.tmp 1)) none [],
                                  AOper.mk (some 29) (AOp.idxA 3 (Operand.tmp 26) (Operand.tmp 27)) none
                                    [0, 1, 0, 1, 2],
                                  AOper.mk (some 30) (AOp.fld 2 (Operand.tmp 29)) none [3, 0, 1, 2],
                                  AOper.mk none (AOp.store 1 (Operand.tmp 30) (Operand.tmp 28)) none [4, 2, 0, 1, 2]]
def l20r8 : List AOper :=
  [AOper.mk (some 31) (AOp.mv (Operand.tmp 1)) none [],
                                  AOper.mk (some 32)
                                    (AOp.bin BinOp.add (Operand.tmp 31)
                                      (Operand.const (Value.int IntKind.i64 1)))
                                    none [0],
                                  AOper.mk (some 1) (AOp.mv (Operand.tmp 32)) none [1, 0, 1]]
def l20r9 : List AOper :=
  [AOper.mk (some 10) (AOp.mv (Operand.tmp 5)) none [],
                      AOper.mk (some 11)
                        (AOp.bin BinOp.add (Operand.tmp 10) (Operand.const (Value.int IntKind.i64 1))) none
                        [0],
                      AOper.mk (some 5) (AOp.mv (Operand.tmp 11)) none [1, 0, 1]]
def l20r10 : List AOper :=
  [AOper.mk (some 33) (AOp.mv (Operand.tmp 1)) none [],
              AOper.mk (some 4) (AOp.mv (Operand.tmp 33)) none [0, 0]]
def l20 : AFn :=
  (AFn.mk 34 2
    (ACode.seq (ACode.reg l20r0)
      (ACode.seq
        (ACode.seq
          (ACode.reg l20r1)
          (ACode.block 0
            (ACode.loop
              (ACode.seq
                (ACode.seq
                  (ACode.reg l20r2)
                  (ACode.cond (Operand.tmp 9) ACode.skip (ACode.exit 0)))
                (ACode.seq
                  (ACode.block 1
                    (ACode.seq
                      (ACode.reg l20r3)
                      (ACode.seq
                        (ACode.reg l20r4)
                        (ACode.seq
                          (ACode.reg l20r5)
                          (ACode.seq
                            (ACode.reg l20r6)
                            (ACode.seq
                              (ACode.reg l20r7)
                              (ACode.reg l20r8)))))))
                  (ACode.reg l20r9))))))
        (ACode.seq
          (ACode.reg l20r10)
          ACode.ret)))
    [ARes.tmp 4])
theorem l20_eq : lowFn Try.prog 20 = some l20 := by kernel_rfl
def l21r0 : List AOper :=
  [AOper.mk (some 4) (AOp.mv (Operand.const (Value.int IntKind.i64 0))) none []]
def l21r1 : List AOper :=
  [AOper.mk (some 5) (AOp.mv (Operand.const (Value.int IntKind.i64 0))) none []]
def l21r2 : List AOper :=
  [AOper.mk (some 6) (AOp.mv (Operand.tmp 5)) none [],
                      AOper.mk (some 7) (AOp.mv (Operand.tmp 0)) none [],
                      AOper.mk (some 8) (AOp.len (Operand.tmp 7)) none [1],
                      AOper.mk (some 9) (AOp.bin BinOp.lss (Operand.tmp 6) (Operand.tmp 8)) none [0, 2]]
def l21r3 : List AOper :=
  [AOper.mk (some 12) (AOp.mv (Operand.tmp 0)) none [],
                            AOper.mk (some 13) (AOp.mv (Operand.tmp 5)) none [],
                            AOper.mk (some 14) (AOp.idxA 3 (Operand.tmp 12) (Operand.tmp 13)) none [0, 1],
                            AOper.mk (some 15) (AOp.fld 0 (Operand.tmp 14)) none [2],
                            AOper.mk (some 16) (AOp.load false 1 (Operand.tmp 15)) none [3],
                            AOper.mk (some 17) (AOp.mv (Operand.tmp 1)) none [],
                            AOper.mk (some 18) (AOp.bin BinOp.neq (Operand.tmp 16) (Operand.tmp 17)) none [4, 5]]
def l21r4 : List AOper :=
  [AOper.mk (some 4) (AOp.mv (Operand.const (Value.int IntKind.i64 (-1)))) none
                                  []]
def l21r5 : List AOper :=
  [AOper.mk (some 19) (AOp.mv (Operand.tmp 1)) none [],
                            AOper.mk (some 20)
                              (AOp.bin BinOp.add (Operand.tmp 19) (Operand.const (Value.int IntKind.i64 1)))
                              none [0],
                            AOper.mk (some 1) (AOp.mv (Operand.tmp 20)) none [1, 0, 1]]
def l21r6 : List AOper :=
  [AOper.mk (some 21) (AOp.mv (Operand.tmp 0)) none [],
                                AOper.mk (some 22) (AOp.mv (Operand.tmp 5)) none [],
                                AOper.mk (some 23) (AOp.idxA 3 (Operand.tmp 21) (Operand.tmp 22)) none [0, 1],
                                AOper.mk (some 24) (AOp.fld 1 (Operand.tmp 23)) none [2],
                                AOper.mk (some 25) (AOp.load false 1 (Operand.tmp 24)) none [3],
                                AOper.mk (some 26) (AOp.mv (Operand.tmp 1)) none [],
                                AOper.mk (some 27) (AOp.bin BinOp.neq (Operand.tmp 25) (Operand.tmp 26)) none [4, 5]]
def l21r7 : List AOper :=
  [AOper.mk (some 4) (AOp.mv (Operand.const (Value.int IntKind.i64 (-1))))
                                      none []]
def l21r8 : List AOper :=
  [AOper.mk (some 28) (AOp.mv (Operand.tmp 1)) none [],
                                AOper.mk (some 29)
                                  (AOp.bin BinOp.add (Operand.tmp 28)
                                    (Operand.const (Value.int IntKind.i64 1)))
                                  none [0],
                                AOper.mk (some 1) (AOp.mv (Operand.tmp 29)) none [1, 0, 1]]
def l21r9 : List AOper :=
  [AOper.mk (some 30) (AOp.mv (Operand.tmp 0)) none [],
                                    AOper.mk (some 31) (AOp.mv (Operand.tmp 5)) none [],
                                    AOper.mk (some 32) (AOp.idxA 3 (Operand.tmp 30) (Operand.tmp 31)) none [0, 1],
                                    AOper.mk (some 33) (AOp.fld 2 (Operand.tmp 32)) none [2],
                                    AOper.mk (some 34) (AOp.load false 1 (Operand.tmp 33)) none [3],
                                    AOper.mk (some 35) (AOp.mv (Operand.tmp 1)) none [],
                                    AOper.mk (some 36) (AOp.bin BinOp.neq (Operand.tmp 34) (Operand.tmp 35)) none
                                      [4, 5]]
def l21r10 : List AOper :=
  [AOper.mk (some 4)
                                          (AOp.mv (Operand.const (Value.int IntKind.i64 (-1)))) none []]
def l21r11 : List AOper :=
  [AOper.mk (some 37) (AOp.mv (Operand.tmp 1)) none [],
                                  AOper.mk (some 38)
                                    (AOp.bin BinOp.add (Operand.tmp 37)
                                      (Operand.const (Value.int IntKind.i64 1)))
                                    none [0],
                                  AOper.mk (some 1) (AOp.mv (Operand.tmp 38)) none [1, 0, 1]]
def l21r12 : List AOper :=
  [AOper.mk (some 10) (AOp.mv (Operand.tmp 5)) none [],
                      AOper.mk (some 11)
                        (AOp.bin BinOp.add (Operand.tmp 10) (Operand.const (Value.int IntKind.i64 1))) none
                        [0],
                      AOper.mk (some 5) (AOp.mv (Operand.tmp 11)) none [1, 0, 1]]
def l21r13 : List AOper :=
  [AOper.mk (some 39) (AOp.mv (Operand.tmp 1)) none [],
              AOper.mk (some 4) (AOp.mv (Operand.tmp 39)) none [0, 0]]
def l21 : AFn :=
  (AFn.mk 40 2
    (ACode.seq (ACode.reg l21r0)
      (ACode.seq
        (ACode.seq
          (ACode.reg l21r1)
          (ACode.block 0
            (ACode.loop
              (ACode.seq
                (ACode.seq
                  (ACode.reg l21r2)
                  (ACode.cond (Operand.tmp 9) ACode.skip (ACode.exit 0)))
                (ACode.seq
                  (ACode.block 1
                    (ACode.seq
                      (ACode.seq
                        (ACode.reg l21r3)
                        (ACode.cond (Operand.tmp 18)
                          (ACode.seq
                            (ACode.reg l21r4)
                            ACode.ret)
                          ACode.skip))
                      (ACode.seq
                        (ACode.reg l21r5)
                        (ACode.seq
                          (ACode.seq
                            (ACode.reg l21r6)
                            (ACode.cond (Operand.tmp 27)
                              (ACode.seq
                                (ACode.reg l21r7)
                                ACode.ret)
                              ACode.skip))
                          (ACode.seq
                            (ACode.reg l21r8)
                            (ACode.seq
                              (ACode.seq
                                (ACode.reg l21r9)
                                (ACode.cond (Operand.tmp 36)
                                  (ACode.seq
                                    (ACode.reg l21r10)
                                    ACode.ret)
                                  ACode.skip))
                              (ACode.reg l21r11)))))))
                  (ACode.reg l21r12))))))
        (ACode.seq
          (ACode.reg l21r13)
          ACode.ret)))
    [ARes.tmp 4])
theorem l21_eq : lowFn Try.prog 21 = some l21 := by kernel_rfl
def l40r0 : List AOper :=
  [AOper.mk (some 1) (AOp.box (Operand.tmp 0)) none [],
          AOper.mk (some 2) (AOp.mv (Operand.const (Value.bool false))) none []]
def l40r1 : List AOper :=
  [AOper.mk (some 3) (AOp.fld 0 (Operand.tmp 1)) none [],
            AOper.mk (some 4) (AOp.load false 1 (Operand.tmp 3)) none [0],
            AOper.mk (some 5)
              (AOp.call 48
                [Operand.tmp 4, Operand.const (Value.int IntKind.i64 (-100)),
                  Operand.const (Value.int IntKind.i64 100)])
              none [1],
            AOper.mk (some 6) (AOp.mv (Operand.tmp 5)) none [2, 2],
            AOper.mk (some 7) (AOp.fld 1 (Operand.tmp 1)) (some (6, true)) [3],
            AOper.mk (some 8) (AOp.load false 1 (Operand.tmp 7)) (some (6, true)) [4, 3],
            AOper.mk (some 9)
              (AOp.call 48
                [Operand.tmp 8, Operand.const (Value.int IntKind.i64 (-101)),
                  Operand.const (Value.int IntKind.i64 101)])
              (some (6, true)) [5, 3, 3],
            AOper.mk (some 10) (AOp.pick (Operand.tmp 6) (Operand.tmp 9) (Operand.const (Value.bool false))) none
              [3, 6],
            AOper.mk (some 11) (AOp.mv (Operand.tmp 10)) none [7, 6],
            AOper.mk (some 12) (AOp.fld 2 (Operand.tmp 1)) (some (11, true)) [8],
            AOper.mk (some 13) (AOp.load false 1 (Operand.tmp 12)) (some (11, true)) [9, 8],
            AOper.mk (some 14)
              (AOp.call 48
                [Operand.tmp 13, Operand.const (Value.int IntKind.i64 (-200)),
                  Operand.const (Value.int IntKind.i64 200)])
              (some (11, true)) [10, 8, 8],
            AOper.mk (some 15) (AOp.pick (Operand.tmp 11) (Operand.tmp 14) (Operand.const (Value.bool false))) none
              [8, 11],
            AOper.mk (some 16) (AOp.mv (Operand.tmp 15)) none [12, 11],
            AOper.mk (some 17) (AOp.fld 2 (Operand.tmp 1)) (some (16, true)) [13],
            AOper.mk (some 18) (AOp.load false 1 (Operand.tmp 17)) (some (16, true)) [14, 13],
            AOper.mk (some 19)
              (AOp.bin BinOp.neq (Operand.tmp 18) (Operand.const (Value.int IntKind.i64 0)))
              (some (16, true)) [15, 13],
            AOper.mk (some 20) (AOp.pick (Operand.tmp 16) (Operand.tmp 19) (Operand.const (Value.bool false))) none
              [13, 16],
            AOper.mk (some 2) (AOp.mv (Operand.tmp 20)) none
              [17, 13, 0, 1, 2, 3, 4, 5, 6, 7, 8, 9, 10, 11, 12, 13, 14, 15, 16, 17]]
def l40 : AFn :=
  (AFn.mk 21 1
    (ACode.seq
      (ACode.reg l40r0)
      (ACode.seq
        (ACode.reg l40r1)
        ACode.ret))
    [ARes.tmp 2])
theorem l40_eq : lowFn Try.prog 40 = some l40 := by kernel_rfl
def l41r0 : List AOper :=
  [AOper.mk (some 2)
            (AOp.alloc
              [Value.int IntKind.i64 0, Value.int IntKind.i64 0,
                Value.int IntKind.i64 0])
            none []]
def l41r1 : List AOper :=
  [AOper.mk (some 5) (AOp.mv (Operand.tmp 0)) none [], AOper.mk (some 6) (AOp.len (Operand.tmp 5)) none [0]]
def l41r2 : List AOper :=
  [AOper.mk (some 8)
                    (AOp.bin BinOp.eql (Operand.tmp 6) (Operand.const (Value.int IntKind.i64 0))) none [],
                  AOper.mk (some 7) (AOp.mv (Operand.tmp 8)) none [0]]
def l41r3 : List AOper :=
  [AOper.mk (some 9)
                        (AOp.build
                          [Value.int IntKind.i64 0, Value.int IntKind.i64 0,
                            Value.int IntKind.i64 0]
                          [(0, 1, Operand.const (Value.int IntKind.i64 0)),
                            (1, 1, Operand.const (Value.int IntKind.i64 0)),
                            (2, 1, Operand.const (Value.int IntKind.i64 1))])
                        none [],
                      AOper.mk none (AOp.store 3 (Operand.tmp 2) (Operand.tmp 9)) none [0, 0]]
def l41r4 : List AOper :=
  [AOper.mk (some 11)
                        (AOp.bin BinOp.eql (Operand.tmp 6) (Operand.const (Value.int IntKind.i64 1))) none
                        [],
                      AOper.mk (some 10) (AOp.mv (Operand.tmp 11)) none [0]]
def l41r5a : List AOper :=
  [AOper.mk (some 12) (AOp.mv (Operand.tmp 0)) none [], AOper.mk (some 13)
                            (AOp.idxA 1 (Operand.tmp 12) (Operand.const (Value.int IntKind.i64 0))) none
                            [0], AOper.mk (some 14) (AOp.load false 1 (Operand.tmp 13)) none [1], AOper.mk (some 15) (AOp.mv (Operand.tmp 0)) none [], AOper.mk (some 16)
                            (AOp.idxA 1 (Operand.tmp 15) (Operand.const (Value.int IntKind.i64 0))) none
                            [3], AOper.mk (some 17) (AOp.load false 1 (Operand.tmp 16)) none [4], AOper.mk (some 18)
                            (AOp.bin BinOp.add (Operand.tmp 17) (Operand.const (Value.int IntKind.i64 1)))
                            none [5]]
def l41r5b : List AOper :=
  [AOper.mk (some 19)
                            (AOp.build
                              [Value.int IntKind.i64 0, Value.int IntKind.i64 0,
                                Value.int IntKind.i64 0]
                              [(0, 1, Operand.tmp 14), (1, 1, Operand.tmp 18),
                                (2, 1, Operand.const (Value.int IntKind.i64 1))])
                            none [2, 6], AOper.mk none (AOp.store 3 (Operand.tmp 2) (Operand.tmp 19)) none
                            [7, 0, 1, 2, 3, 4, 5, 6, 7]]
def l41r5 : List AOper := l41r5a ++ l41r5b
def l41r6a : List AOper :=
  [AOper.mk (some 20) (AOp.mv (Operand.tmp 0)) none [], AOper.mk (some 21) (AOp.idxA 1 (Operand.tmp 20) (Operand.const (Value.int IntKind.i64 1)))
                none [0], AOper.mk (some 22) (AOp.load false 1 (Operand.tmp 21)) none [1], AOper.mk (some 23) (AOp.mv (Operand.tmp 0)) none [], AOper.mk (some 24) (AOp.idxA 1 (Operand.tmp 23) (Operand.const (Value.int IntKind.i64 0)))
                none [3], AOper.mk (some 25) (AOp.load false 1 (Operand.tmp 24)) none [4]]
def l41r6b : List AOper :=
  [AOper.mk (some 26) (AOp.bin BinOp.sub (Operand.tmp 22) (Operand.tmp 25)) none [2, 5], AOper.mk (some 3) (AOp.mv (Operand.tmp 26)) none [6, 0, 1, 2, 3, 4, 5, 6]]
def l41r6 : List AOper := l41r6a ++ l41r6b
def l41r7 : List AOper :=
  [AOper.mk (some 27) (AOp.mv (Operand.tmp 0)) none [], AOper.mk (some 28) (AOp.mv (Operand.tmp 0)) none [],
                AOper.mk (some 29) (AOp.len (Operand.tmp 28)) none [1],
                AOper.mk (some 30)
                  (AOp.bin BinOp.sub (Operand.tmp 29) (Operand.const (Value.int IntKind.i64 1))) none [2],
                AOper.mk (some 31) (AOp.idxA 1 (Operand.tmp 27) (Operand.tmp 30)) none [0, 3],
                AOper.mk (some 32) (AOp.load false 1 (Operand.tmp 31)) none [4],
                AOper.mk (some 33)
                  (AOp.bin BinOp.add (Operand.tmp 32) (Operand.const (Value.int IntKind.i64 1))) none [5],
                AOper.mk (some 4) (AOp.mv (Operand.tmp 33)) none [6, 0, 1, 2, 3, 4, 5, 6]]
def l41r8 : List AOper :=
  [AOper.mk (some 34) (AOp.mv (Operand.tmp 3)) none [],
                    AOper.mk (some 35)
                      (AOp.bin BinOp.lss (Operand.tmp 34) (Operand.const (Value.int IntKind.i64 0))) none
                      [0]]
def l41r9 : List AOper :=
  [AOper.mk (some 36) (AOp.mv (Operand.tmp 0)) none [],
                      AOper.mk (some 37) (AOp.mv (Operand.tmp 0)) none [],
                      AOper.mk (some 38) (AOp.len (Operand.tmp 37)) none [1],
                      AOper.mk (some 39)
                        (AOp.bin BinOp.sub (Operand.tmp 38) (Operand.const (Value.int IntKind.i64 1))) none
                        [2],
                      AOper.mk (some 40) (AOp.idxA 1 (Operand.tmp 36) (Operand.tmp 39)) none [0, 3],
                      AOper.mk (some 41) (AOp.load false 1 (Operand.tmp 40)) none [4],
                      AOper.mk (some 42)
                        (AOp.bin BinOp.sub (Operand.tmp 41) (Operand.const (Value.int IntKind.i64 1))) none
                        [5],
                      AOper.mk (some 4) (AOp.mv (Operand.tmp 42)) none [6, 0, 1, 2, 3, 4, 5, 6]]
def l41r10 : List AOper :=
  [AOper.mk (some 43) (AOp.mv (Operand.tmp 0)) none [],
                    AOper.mk (some 44)
                      (AOp.idxA 1 (Operand.tmp 43) (Operand.const (Value.int IntKind.i64 0))) none [0],
                    AOper.mk (some 45) (AOp.load false 1 (Operand.tmp 44)) none [1],
                    AOper.mk (some 46) (AOp.mv (Operand.tmp 4)) none [],
                    AOper.mk (some 47) (AOp.mv (Operand.tmp 3)) none [],
                    AOper.mk (some 48)
                      (AOp.build
                        [Value.int IntKind.i64 0, Value.int IntKind.i64 0,
                          Value.int IntKind.i64 0]
                        [(0, 1, Operand.tmp 45), (1, 1, Operand.tmp 46), (2, 1, Operand.tmp 47)])
                      none [2, 3, 4],
                    AOper.mk none (AOp.store 3 (Operand.tmp 2) (Operand.tmp 48)) none [5, 0, 1, 2, 3, 4, 5]]
def l41 : AFn :=
  (AFn.mk 49 1
    (ACode.seq
      (ACode.reg l41r0)
      (ACode.seq
        (ACode.seq
          (ACode.reg l41r1)
          (ACode.block 0
            (ACode.seq
              (ACode.reg l41r2)
              (ACode.cond (Operand.tmp 7)
                (ACode.seq
                  (ACode.reg l41r3)
                  ACode.ret)
                (ACode.seq
                  (ACode.reg l41r4)
                  (ACode.cond (Operand.tmp 10)
                    (ACode.seq
                      (ACode.draw l41r5)
                      ACode.ret)
                    ACode.skip))))))
        (ACode.seq
          (ACode.draw l41r6)
          (ACode.seq
            (ACode.reg l41r7)
            (ACode.seq
              (ACode.seq
                (ACode.reg l41r8)
                (ACode.cond (Operand.tmp 35)
                  (ACode.reg l41r9)
                  ACode.skip))
              (ACode.seq
                (ACode.reg l41r10)
                ACode.ret))))))
    [ARes.cell 2 true 3])
theorem l41_eq : lowFn Try.prog 41 = some l41 := by kernel_rfl
def l44r0 : List AOper :=
  [AOper.mk (some 1) (AOp.box (Operand.tmp 0)) none [],
          AOper.mk (some 2) (AOp.mv (Operand.const (Value.slice none 0 0))) none []]
def l44r1 : List AOper :=
  [AOper.mk (some 5) (AOp.bslice 1 [Value.int IntKind.i64 0] [] 0) none [],
            AOper.mk (some 3) (AOp.mv (Operand.tmp 5)) none [0, 0]]
def l44r2 : List AOper :=
  [AOper.mk (some 6) (AOp.fld 0 (Operand.tmp 1)) none [],
                AOper.mk (some 7) (AOp.load false 1 (Operand.tmp 6)) none [0],
                AOper.mk (some 4) (AOp.mv (Operand.tmp 7)) none [1, 0, 1]]
def l44r3 : List AOper :=
  [AOper.mk (some 8) (AOp.fld 2 (Operand.tmp 1)) none [],
                        AOper.mk (some 9) (AOp.load false 1 (Operand.tmp 8)) none [0],
                        AOper.mk (some 10)
                          (AOp.bin BinOp.gtr (Operand.tmp 9) (Operand.const (Value.int IntKind.i64 0))) none
                          [1],
                        AOper.mk (some 11) (AOp.mv (Operand.tmp 10)) none [2],
                        AOper.mk (some 12) (AOp.mv (Operand.tmp 4)) (some (11, true)) [3],
                        AOper.mk (some 13) (AOp.fld 1 (Operand.tmp 1)) (some (11, true)) [3],
                        AOper.mk (some 14) (AOp.load false 1 (Operand.tmp 13)) (some (11, true)) [5, 3],
                        AOper.mk (some 15) (AOp.bin BinOp.lss (Operand.tmp 12) (Operand.tmp 14)) (some (11, true))
                          [4, 6, 3],
                        AOper.mk (some 16)
                          (AOp.pick (Operand.tmp 11) (Operand.tmp 15) (Operand.const (Value.bool false))) none [3, 7],
                        AOper.mk (some 17) (AOp.mv (Operand.tmp 16)) none [8, 3],
                        AOper.mk (some 18) (AOp.fld 2 (Operand.tmp 1)) (some (17, false)) [9],
                        AOper.mk (some 19) (AOp.load false 1 (Operand.tmp 18)) (some (17, false)) [10, 9],
                        AOper.mk (some 20)
                          (AOp.bin BinOp.lss (Operand.tmp 19) (Operand.const (Value.int IntKind.i64 0)))
                          (some (17, false)) [11, 9],
                        AOper.mk (some 21) (AOp.mv (Operand.tmp 20)) (some (17, false)) [12, 9, 9],
                        AOper.mk (some 22) (AOp.mv (Operand.tmp 4)) (some (21, true)) [13],
                        AOper.mk (some 23) (AOp.fld 1 (Operand.tmp 1)) (some (21, true)) [13],
                        AOper.mk (some 24) (AOp.load false 1 (Operand.tmp 23)) (some (21, true)) [15, 13],
                        AOper.mk (some 25) (AOp.bin BinOp.gtr (Operand.tmp 22) (Operand.tmp 24)) (some (21, true))
                          [14, 16, 13],
                        AOper.mk (some 26)
                          (AOp.pick (Operand.tmp 21) (Operand.tmp 25) (Operand.const (Value.bool false)))
                          (some (17, false)) [13, 17, 9],
                        AOper.mk (some 27)
                          (AOp.pick (Operand.tmp 17) (Operand.const (Value.bool true)) (Operand.tmp 26)) none [9, 18]]
def l44r4 : List AOper :=
  [AOper.mk (some 32) (AOp.mv (Operand.tmp 3)) none [],
                          AOper.mk (some 33) (AOp.mv (Operand.tmp 4)) none [],
                          AOper.mk (some 34)
                            (AOp.bslice 1 [Value.int IntKind.i64 0] [(0, Operand.tmp 33)] 1) none [1],
                          AOper.mk (some 35) (AOp.append 1 (Operand.tmp 32) (Operand.tmp 34)) none [0, 2],
                          AOper.mk (some 3) (AOp.mv (Operand.tmp 35)) none [3, 3, 0, 1, 2, 3]]
def l44r5 : List AOper :=
  [AOper.mk (some 28) (AOp.mv (Operand.tmp 4)) none [],
                        AOper.mk (some 29) (AOp.fld 2 (Operand.tmp 1)) none [],
                        AOper.mk (some 30) (AOp.load false 1 (Operand.tmp 29)) none [1],
                        AOper.mk (some 31) (AOp.bin BinOp.add (Operand.tmp 28) (Operand.tmp 30)) none [0, 2],
                        AOper.mk (some 4) (AOp.mv (Operand.tmp 31)) none [3, 0, 1, 2, 3]]
def l44r6 : List AOper :=
  [AOper.mk (some 36) (AOp.mv (Operand.tmp 3)) none [],
                AOper.mk (some 2) (AOp.mv (Operand.tmp 36)) none [0, 0]]
def l44 : AFn :=
  (AFn.mk 37 1
    (ACode.seq
      (ACode.reg l44r0)
      (ACode.seq
        (ACode.reg l44r1)
        (ACode.seq
          (ACode.seq
            (ACode.reg l44r2)
            (ACode.block 0
              (ACode.loop
                (ACode.seq
                  (ACode.seq
                    (ACode.reg l44r3)
                    (ACode.cond (Operand.tmp 27) ACode.skip (ACode.exit 0)))
                  (ACode.seq
                    (ACode.block 1
                      (ACode.reg l44r4))
                    (ACode.reg l44r5))))))
          (ACode.seq
            (ACode.reg l44r6)
            ACode.ret))))
    [ARes.tmp 2])
theorem l44_eq : lowFn Try.prog 44 = some l44 := by kernel_rfl
def l45r0 : List AOper :=
  [AOper.mk (some 1) (AOp.box (Operand.tmp 0)) none [],
          AOper.mk (some 2) (AOp.mv (Operand.const (Value.bool false))) none []]
def l45r1 : List AOper :=
  [AOper.mk (some 3) (AOp.fld 0 (Operand.tmp 1)) none [],
            AOper.mk (some 4) (AOp.load false 1 (Operand.tmp 3)) none [0],
            AOper.mk (some 5) (AOp.call 69 [Operand.tmp 4, Operand.const (Value.int IntKind.i64 100)]) none
              [1],
            AOper.mk (some 6) (AOp.mv (Operand.tmp 5)) none [2, 2],
            AOper.mk (some 7) (AOp.fld 1 (Operand.tmp 1)) (some (6, true)) [3],
            AOper.mk (some 8) (AOp.load false 1 (Operand.tmp 7)) (some (6, true)) [4, 3],
            AOper.mk (some 9) (AOp.call 69 [Operand.tmp 8, Operand.const (Value.int IntKind.i64 101)])
              (some (6, true)) [5, 3, 3],
            AOper.mk (some 10) (AOp.pick (Operand.tmp 6) (Operand.tmp 9) (Operand.const (Value.bool false))) none
              [3, 6],
            AOper.mk (some 11) (AOp.mv (Operand.tmp 10)) none [7, 6],
            AOper.mk (some 12) (AOp.fld 2 (Operand.tmp 1)) (some (11, true)) [8],
            AOper.mk (some 13) (AOp.load false 1 (Operand.tmp 12)) (some (11, true)) [9, 8],
            AOper.mk (some 14) (AOp.call 70 [Operand.tmp 13]) (some (11, true)) [10, 8, 8],
            AOper.mk (some 15) (AOp.pick (Operand.tmp 11) (Operand.tmp 14) (Operand.const (Value.bool false))) none
              [8, 11],
            AOper.mk (some 2) (AOp.mv (Operand.tmp 15)) none [12, 11, 0, 1, 2, 3, 4, 5, 6, 7, 8, 9, 10, 11, 12]]
def l45 : AFn :=
  (AFn.mk 16 1
    (ACode.seq
      (ACode.reg l45r0)
      (ACode.seq
        (ACode.reg l45r1)
        ACode.ret))
    [ARes.tmp 2])
theorem l45_eq : lowFn Try.prog 45 = some l45 := by kernel_rfl
def l48r0 : List AOper :=
  [AOper.mk (some 6) (AOp.mv (Operand.const (Value.bool false))) none []]
def l48r1 : List AOper :=
  [AOper.mk (some 7) (AOp.mv (Operand.tmp 1)) none [], AOper.mk (some 8) (AOp.mv (Operand.tmp 0)) none [],
            AOper.mk (some 9) (AOp.bin BinOp.leq (Operand.tmp 7) (Operand.tmp 8)) none [0, 1],
            AOper.mk (some 10) (AOp.mv (Operand.tmp 9)) none [2],
            AOper.mk (some 11) (AOp.mv (Operand.tmp 0)) (some (10, true)) [3],
            AOper.mk (some 12) (AOp.mv (Operand.tmp 2)) (some (10, true)) [3],
            AOper.mk (some 13) (AOp.bin BinOp.leq (Operand.tmp 11) (Operand.tmp 12)) (some (10, true)) [4, 5, 3],
            AOper.mk (some 14) (AOp.pick (Operand.tmp 10) (Operand.tmp 13) (Operand.const (Value.bool false))) none
              [3, 6],
            AOper.mk (some 6) (AOp.mv (Operand.tmp 14)) none [7, 3, 0, 1, 2, 3, 4, 5, 6, 7]]
def l48 : AFn :=
  (AFn.mk 15 3
    (ACode.seq (ACode.reg l48r0)
      (ACode.seq
        (ACode.reg l48r1)
        ACode.ret))
    [ARes.tmp 6])
theorem l48_eq : lowFn Try.prog 48 = some l48 := by kernel_rfl
def l49r0 : List AOper :=
  [AOper.mk (some 2) (AOp.box (Operand.tmp 0)) none [], AOper.mk (some 3) (AOp.box (Operand.tmp 1)) none [],
          AOper.mk (some 4)
            (AOp.alloc
              [Value.int IntKind.i64 0, Value.int IntKind.i64 0,
                Value.int IntKind.i64 0])
            none []]
def l49r1a : List AOper :=
  [AOper.mk (some 5) (AOp.load true 3 (Operand.tmp 2)) none [], AOper.mk (some 6) (AOp.fld 0 (Operand.tmp 3)) none [], AOper.mk (some 7) (AOp.load false 1 (Operand.tmp 6)) none [1], AOper.mk (some 8) (AOp.call 73 [Operand.tmp 5, Operand.tmp 7]) none [0, 2], AOper.mk (some 9) (AOp.fld 2 (Operand.tmp 2)) none [], AOper.mk (some 10) (AOp.load false 1 (Operand.tmp 9)) none [4], AOper.mk (some 11) (AOp.fld 2 (Operand.tmp 3)) none [], AOper.mk (some 12) (AOp.load false 1 (Operand.tmp 11)) none [6], AOper.mk (some 13) (AOp.bin BinOp.mul (Operand.tmp 10) (Operand.tmp 12)) none [5, 7], AOper.mk (some 14) (AOp.load true 3 (Operand.tmp 3)) none [], AOper.mk (some 15) (AOp.call 50 [Operand.tmp 14]) none [9, 3]]
def l49r1b : List AOper :=
  [AOper.mk (some 16) (AOp.call 76 [Operand.tmp 8, Operand.tmp 13, Operand.tmp 15]) none [3, 8, 10, 10], AOper.mk none (AOp.store 3 (Operand.tmp 4) (Operand.tmp 16)) none
              [11, 11, 0, 1, 2, 3, 4, 5, 6, 7, 8, 9, 10, 11]]
def l49r1 : List AOper := l49r1a ++ l49r1b
def l49 : AFn :=
  (AFn.mk 17 2
    (ACode.seq
      (ACode.reg l49r0)
      (ACode.seq
        (ACode.draw l49r1)
        ACode.ret))
    [ARes.cell 4 true 3])
theorem l49_eq : lowFn Try.prog 49 = some l49 := by kernel_rfl
def l50r0 : List AOper :=
  [AOper.mk (some 1) (AOp.box (Operand.tmp 0)) none [],
          AOper.mk (some 2) (AOp.mv (Operand.const (Value.int IntKind.i64 0))) none []]
def l50r1a : List AOper :=
  [AOper.mk (some 5) (AOp.fld 1 (Operand.tmp 1)) none [], AOper.mk (some 6) (AOp.load false 1 (Operand.tmp 5)) none [0], AOper.mk (some 7) (AOp.fld 0 (Operand.tmp 1)) none [], AOper.mk (some 8) (AOp.load false 1 (Operand.tmp 7)) none [2], AOper.mk (some 9) (AOp.bin BinOp.sub (Operand.tmp 6) (Operand.tmp 8)) none [1, 3], AOper.mk (some 10) (AOp.fld 2 (Operand.tmp 1)) none [], AOper.mk (some 11) (AOp.load false 1 (Operand.tmp 10)) none [5], AOper.mk (some 3) (AOp.mv (Operand.tmp 9)) none [4, 0, 1, 2, 3, 4]]
def l50r1b : List AOper :=
  [AOper.mk (some 4) (AOp.mv (Operand.tmp 11)) none [6, 7, 0, 1, 2, 3, 4, 5, 6, 7]]
def l50r1 : List AOper := l50r1a ++ l50r1b
def l50r2 : List AOper :=
  [AOper.mk (some 12) (AOp.mv (Operand.tmp 4)) none [],
                AOper.mk (some 13)
                  (AOp.bin BinOp.lss (Operand.tmp 12) (Operand.const (Value.int IntKind.i64 0))) none [0]]
def l50r3 : List AOper :=
  [AOper.mk (some 14) (AOp.mv (Operand.tmp 3)) none [],
                  AOper.mk (some 15) (AOp.un UnOp.neg (Operand.tmp 14)) none [0],
                  AOper.mk (some 16) (AOp.mv (Operand.tmp 4)) none [],
                  AOper.mk (some 17) (AOp.un UnOp.neg (Operand.tmp 16)) none [2],
                  AOper.mk (some 3) (AOp.mv (Operand.tmp 15)) none [1, 0, 1],
                  AOper.mk (some 4) (AOp.mv (Operand.tmp 17)) none [3, 4, 0, 1, 2, 3, 4]]
def l50r4 : List AOper :=
  [AOper.mk (some 18) (AOp.mv (Operand.tmp 3)) none [],
                  AOper.mk (some 19)
                    (AOp.bin BinOp.leq (Operand.tmp 18) (Operand.const (Value.int IntKind.i64 0))) none
                    [0]]
def l50r5 : List AOper :=
  [AOper.mk (some 2) (AOp.mv (Operand.const (Value.int IntKind.i64 0))) none []]
def l50r6 : List AOper :=
  [AOper.mk (some 20) (AOp.mv (Operand.tmp 3)) none [],
                  AOper.mk (some 21) (AOp.mv (Operand.tmp 4)) none [],
                  AOper.mk (some 22) (AOp.bin BinOp.add (Operand.tmp 20) (Operand.tmp 21)) none [0, 1],
                  AOper.mk (some 23)
                    (AOp.bin BinOp.sub (Operand.tmp 22) (Operand.const (Value.int IntKind.i64 1))) none [2],
                  AOper.mk (some 24) (AOp.mv (Operand.tmp 4)) none [],
                  AOper.mk (some 25) (AOp.bin BinOp.quo (Operand.tmp 23) (Operand.tmp 24)) none [3, 4],
                  AOper.mk (some 2) (AOp.mv (Operand.tmp 25)) none [5, 0, 1, 2, 3, 4, 5]]
def l50 : AFn :=
  (AFn.mk 26 1
    (ACode.seq
      (ACode.reg l50r0)
      (ACode.seq
        (ACode.draw l50r1)
        (ACode.seq
          (ACode.seq
            (ACode.reg l50r2)
            (ACode.cond (Operand.tmp 13)
              (ACode.reg l50r3)
              ACode.skip))
          (ACode.seq
            (ACode.seq
              (ACode.reg l50r4)
              (ACode.cond (Operand.tmp 19)
                (ACode.seq
                  (ACode.reg l50r5)
                  ACode.ret)
                ACode.skip))
            (ACode.seq
              (ACode.reg l50r6)
              ACode.ret)))))
    [ARes.tmp 2])
theorem l50_eq : lowFn Try.prog 50 = some l50 := by kernel_rfl
def l69r0 : List AOper :=
  [AOper.mk (some 4) (AOp.mv (Operand.const (Value.bool false))) none []]
def l69r1 : List AOper :=
  [AOper.mk (some 5) (AOp.mv (Operand.tmp 1)) none [],
            AOper.mk (some 6) (AOp.un UnOp.neg (Operand.tmp 5)) none [0],
            AOper.mk (some 7) (AOp.mv (Operand.tmp 0)) none [],
            AOper.mk (some 8) (AOp.bin BinOp.leq (Operand.tmp 6) (Operand.tmp 7)) none [1, 2],
            AOper.mk (some 9) (AOp.mv (Operand.tmp 8)) none [3],
            AOper.mk (some 10) (AOp.mv (Operand.tmp 0)) (some (9, true)) [4],
            AOper.mk (some 11) (AOp.mv (Operand.tmp 1)) (some (9, true)) [4],
            AOper.mk (some 12) (AOp.bin BinOp.leq (Operand.tmp 10) (Operand.tmp 11)) (some (9, true)) [5, 6, 4],
            AOper.mk (some 13) (AOp.pick (Operand.tmp 9) (Operand.tmp 12) (Operand.const (Value.bool false))) none
              [4, 7],
            AOper.mk (some 4) (AOp.mv (Operand.tmp 13)) none [8, 4, 0, 1, 2, 3, 4, 5, 6, 7, 8]]
def l69 : AFn :=
  (AFn.mk 14 2
    (ACode.seq (ACode.reg l69r0)
      (ACode.seq
        (ACode.reg l69r1)
        ACode.ret))
    [ARes.tmp 4])
theorem l69_eq : lowFn Try.prog 69 = some l69 := by kernel_rfl
def l70r0 : List AOper :=
  [AOper.mk (some 2) (AOp.mv (Operand.const (Value.bool false))) none []]
def l70r1 : List AOper :=
  [AOper.mk (some 3) (AOp.mv (Operand.tmp 0)) none [],
            AOper.mk (some 4) (AOp.call 69 [Operand.tmp 3, Operand.const (Value.int IntKind.i64 200)]) none
              [0],
            AOper.mk (some 5) (AOp.mv (Operand.tmp 4)) none [1, 1],
            AOper.mk (some 6) (AOp.mv (Operand.tmp 0)) (some (5, true)) [2],
            AOper.mk (some 7) (AOp.bin BinOp.neq (Operand.tmp 6) (Operand.const (Value.int IntKind.i64 0)))
              (some (5, true)) [3, 2],
            AOper.mk (some 8) (AOp.pick (Operand.tmp 5) (Operand.tmp 7) (Operand.const (Value.bool false))) none [2, 4],
            AOper.mk (some 2) (AOp.mv (Operand.tmp 8)) none [5, 2, 0, 1, 2, 3, 4, 5]]
def l70 : AFn :=
  (AFn.mk 9 1
    (ACode.seq (ACode.reg l70r0)
      (ACode.seq
        (ACode.reg l70r1)
        ACode.ret))
    [ARes.tmp 2])
theorem l70_eq : lowFn Try.prog 70 = some l70 := by kernel_rfl
def l73r0 : List AOper :=
  [AOper.mk (some 2) (AOp.box (Operand.tmp 0)) none [],
          AOper.mk (some 4) (AOp.mv (Operand.const (Value.int IntKind.i64 0))) none []]
def l73r1 : List AOper :=
  [AOper.mk (some 5) (AOp.fld 0 (Operand.tmp 2)) none [],
            AOper.mk (some 6) (AOp.load false 1 (Operand.tmp 5)) none [0],
            AOper.mk (some 7) (AOp.mv (Operand.tmp 1)) none [], AOper.mk (some 8) (AOp.fld 2 (Operand.tmp 2)) none [],
            AOper.mk (some 9) (AOp.load false 1 (Operand.tmp 8)) none [3],
            AOper.mk (some 10) (AOp.bin BinOp.mul (Operand.tmp 7) (Operand.tmp 9)) none [2, 4],
            AOper.mk (some 11) (AOp.bin BinOp.add (Operand.tmp 6) (Operand.tmp 10)) none [1, 5],
            AOper.mk (some 4) (AOp.mv (Operand.tmp 11)) none [6, 0, 1, 2, 3, 4, 5, 6]]
def l73 : AFn :=
  (AFn.mk 12 2
    (ACode.seq
      (ACode.reg l73r0)
      (ACode.seq
        (ACode.reg l73r1)
        ACode.ret))
    [ARes.tmp 4])
theorem l73_eq : lowFn Try.prog 73 = some l73 := by kernel_rfl
def l76r0 : List AOper :=
  [AOper.mk (some 6)
            (AOp.alloc
              [Value.int IntKind.i64 0, Value.int IntKind.i64 0,
                Value.int IntKind.i64 0])
            none []]
def l76r1 : List AOper :=
  [AOper.mk (some 8) (AOp.mv (Operand.tmp 2)) none [],
              AOper.mk (some 9)
                (AOp.bin BinOp.lss (Operand.tmp 8) (Operand.const (Value.int IntKind.i64 1))) none [0]]
def l76r2 : List AOper :=
  [AOper.mk (some 10)
                    (AOp.build
                      [Value.int IntKind.i64 0, Value.int IntKind.i64 0,
                        Value.int IntKind.i64 0]
                      [(0, 1, Operand.const (Value.int IntKind.i64 0)),
                        (1, 1, Operand.const (Value.int IntKind.i64 0)),
                        (2, 1, Operand.const (Value.int IntKind.i64 1))])
                    none [],
                  AOper.mk none (AOp.store 3 (Operand.tmp 6) (Operand.tmp 10)) none [0, 0]]
def l76r3 : List AOper :=
  [AOper.mk (some 11) (AOp.mv (Operand.tmp 2)) none [],
                AOper.mk (some 12)
                  (AOp.bin BinOp.eql (Operand.tmp 11) (Operand.const (Value.int IntKind.i64 1))) none [0]]
def l76r4 : List AOper :=
  [AOper.mk (some 13) (AOp.mv (Operand.tmp 0)) none [],
                    AOper.mk (some 14) (AOp.mv (Operand.tmp 0)) none [],
                    AOper.mk (some 15)
                      (AOp.bin BinOp.add (Operand.tmp 14) (Operand.const (Value.int IntKind.i64 1))) none
                      [1],
                    AOper.mk (some 16)
                      (AOp.build
                        [Value.int IntKind.i64 0, Value.int IntKind.i64 0,
                          Value.int IntKind.i64 0]
                        [(0, 1, Operand.tmp 13), (1, 1, Operand.tmp 15),
                          (2, 1, Operand.const (Value.int IntKind.i64 1))])
                      none [0, 2],
                    AOper.mk none (AOp.store 3 (Operand.tmp 6) (Operand.tmp 16)) none [3, 0, 1, 2, 3]]
def l76r5 : List AOper :=
  [AOper.mk (some 17) (AOp.mv (Operand.tmp 0)) none [], AOper.mk (some 18) (AOp.mv (Operand.tmp 2)) none [],
                AOper.mk (some 19)
                  (AOp.bin BinOp.sub (Operand.tmp 18) (Operand.const (Value.int IntKind.i64 1))) none [1],
                AOper.mk (some 20) (AOp.mv (Operand.tmp 1)) none [],
                AOper.mk (some 21) (AOp.bin BinOp.mul (Operand.tmp 19) (Operand.tmp 20)) none [2, 3],
                AOper.mk (some 22) (AOp.bin BinOp.add (Operand.tmp 17) (Operand.tmp 21)) none [0, 4],
                AOper.mk (some 7) (AOp.mv (Operand.tmp 22)) none [5, 0, 1, 2, 3, 4, 5]]
def l76r6 : List AOper :=
  [AOper.mk (some 23) (AOp.mv (Operand.tmp 1)) none [],
                    AOper.mk (some 24)
                      (AOp.bin BinOp.lss (Operand.tmp 23) (Operand.const (Value.int IntKind.i64 0))) none
                      [0]]
def l76r7 : List AOper :=
  [AOper.mk (some 25) (AOp.mv (Operand.tmp 0)) none [],
                        AOper.mk (some 26) (AOp.mv (Operand.tmp 7)) none [],
                        AOper.mk (some 27)
                          (AOp.bin BinOp.sub (Operand.tmp 26) (Operand.const (Value.int IntKind.i64 1)))
                          none [1],
                        AOper.mk (some 28) (AOp.mv (Operand.tmp 1)) none [],
                        AOper.mk (some 29)
                          (AOp.build
                            [Value.int IntKind.i64 0, Value.int IntKind.i64 0,
                              Value.int IntKind.i64 0]
                            [(0, 1, Operand.tmp 25), (1, 1, Operand.tmp 27), (2, 1, Operand.tmp 28)])
                          none [0, 2, 3],
                        AOper.mk none (AOp.store 3 (Operand.tmp 6) (Operand.tmp 29)) none [4, 0, 1, 2, 3, 4]]
def l76r8 : List AOper :=
  [AOper.mk (some 30) (AOp.mv (Operand.tmp 0)) none [],
                    AOper.mk (some 31) (AOp.mv (Operand.tmp 7)) none [],
                    AOper.mk (some 32)
                      (AOp.bin BinOp.add (Operand.tmp 31) (Operand.const (Value.int IntKind.i64 1))) none
                      [1],
                    AOper.mk (some 33) (AOp.mv (Operand.tmp 1)) none [],
                    AOper.mk (some 34)
                      (AOp.build
                        [Value.int IntKind.i64 0, Value.int IntKind.i64 0,
                          Value.int IntKind.i64 0]
                        [(0, 1, Operand.tmp 30), (1, 1, Operand.tmp 32), (2, 1, Operand.tmp 33)])
                      none [0, 2, 3],
                    AOper.mk none (AOp.store 3 (Operand.tmp 6) (Operand.tmp 34)) none [4, 0, 1, 2, 3, 4]]
def l76 : AFn :=
  (AFn.mk 35 3
    (ACode.seq
      (ACode.reg l76r0)
      (ACode.seq
        (ACode.seq
          (ACode.reg l76r1)
          (ACode.cond (Operand.tmp 9)
            (ACode.seq
              (ACode.reg l76r2)
              ACode.ret)
            ACode.skip))
        (ACode.seq
          (ACode.seq
            (ACode.reg l76r3)
            (ACode.cond (Operand.tmp 12)
              (ACode.seq
                (ACode.reg l76r4)
                ACode.ret)
              ACode.skip))
          (ACode.seq
            (ACode.reg l76r5)
            (ACode.seq
              (ACode.seq
                (ACode.reg l76r6)
                (ACode.cond (Operand.tmp 24)
                  (ACode.seq
                    (ACode.reg l76r7)
                    ACode.ret)
                  ACode.skip))
              (ACode.seq
                (ACode.reg l76r8)
                ACode.ret))))))
    [ARes.cell 6 true 3])
theorem l76_eq : lowFn Try.prog 76 = some l76 := by kernel_rfl
end Go.Proofs.Ytjnlcbjehhpjiaa
