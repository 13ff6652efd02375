import Derived.Test.YtniddegncklgpaaCVwR
import Derived.Test.YtniddegncklgpaaProg
import Derived.KernelRfl
set_option maxRecDepth 100000
namespace Go.Proofs.Ytniddegncklgpaa
open Vw Go
def l9r0 : List AOper :=
  [AOper.mk (some 2) (AOp.mv (Operand.const (Value.bool false))) none []]
def l9r1 : List AOper :=
  [AOper.mk (some 6) (AOp.mv (Operand.tmp 0)) none [], AOper.mk (some 7) (AOp.len (Operand.tmp 6)) none [0],
              AOper.mk (some 8)
                (AOp.bin BinOp.gtr (Operand.tmp 7) (Operand.const (Value.int IntKind.i64 1048576))) none
                [1]]
def l9r2 : List AOper :=
  [AOper.mk (some 2) (AOp.mv (Operand.const (Value.bool true))) none []]
def l9r3 : List AOper :=
  [AOper.mk (some 10) (AOp.mv (Operand.tmp 0)) none [],
              AOper.mk (some 11) (AOp.call 36 [Operand.tmp 10]) none [0],
              AOper.mk (some 9) (AOp.mv (Operand.tmp 11)) none [1],
              AOper.mk (some 12) (AOp.extract (Operand.tmp 9) 0) none [2],
              AOper.mk (some 13) (AOp.extract (Operand.tmp 9) 1) none [2],
              AOper.mk (some 3)
                (AOp.alloc
                  [Value.int IntKind.i64 0, Value.int IntKind.i64 0,
                    Value.int IntKind.i64 0])
                none [],
              AOper.mk (some 4)
                (AOp.alloc
                  [Value.int IntKind.i64 0, Value.int IntKind.i64 0,
                    Value.int IntKind.i64 0])
                none [],
              AOper.mk none (AOp.store 3 (Operand.tmp 3) (Operand.tmp 12)) none [5, 3, 1, 0, 1, 2, 3, 5, 6],
              AOper.mk none (AOp.store 3 (Operand.tmp 4) (Operand.tmp 13)) none [6, 4, 7, 0, 1, 2, 3, 4, 5, 6, 7]]
def l9r4 : List AOper :=
  [AOper.mk (some 14) (AOp.load true 3 (Operand.tmp 3)) none [],
                AOper.mk (some 15) (AOp.load true 3 (Operand.tmp 4)) none [],
                AOper.mk (some 16) (AOp.call 24 [Operand.tmp 14, Operand.tmp 15]) none [0, 1],
                AOper.mk (some 5) (AOp.mv (Operand.tmp 16)) none [2, 2, 0, 1, 2]]
def l9r5 : List AOper :=
  [AOper.mk (some 17) (AOp.mv (Operand.tmp 5)) none [],
                    AOper.mk (some 18) (AOp.load true 3 (Operand.tmp 3)) none [],
                    AOper.mk (some 19) (AOp.load true 3 (Operand.tmp 4)) none [],
                    AOper.mk (some 20) (AOp.call 37 [Operand.tmp 18, Operand.tmp 19]) none [1, 2],
                    AOper.mk (some 21) (AOp.binB BinOp.neq (Operand.tmp 17) (Operand.tmp 20)) none [0, 3],
                    AOper.mk (some 22) (AOp.mv (Operand.tmp 21)) none [4, 3],
                    AOper.mk (some 23) (AOp.load true 3 (Operand.tmp 3)) (some (22, false)) [5],
                    AOper.mk (some 24) (AOp.call 38 [Operand.tmp 23]) (some (22, false)) [6, 5, 5],
                    AOper.mk (some 25) (AOp.un UnOp.not (Operand.tmp 24)) (some (22, false)) [7, 5],
                    AOper.mk (some 26) (AOp.pick (Operand.tmp 22) (Operand.const (Value.bool true)) (Operand.tmp 25))
                      none [5, 8],
                    AOper.mk (some 27) (AOp.mv (Operand.tmp 26)) none [9, 7],
                    AOper.mk (some 28) (AOp.load true 3 (Operand.tmp 4)) (some (27, false)) [10],
                    AOper.mk (some 29) (AOp.call 38 [Operand.tmp 28]) (some (27, false)) [11, 10, 10],
                    AOper.mk (some 30) (AOp.un UnOp.not (Operand.tmp 29)) (some (27, false)) [12, 10],
                    AOper.mk (some 31) (AOp.pick (Operand.tmp 27) (Operand.const (Value.bool true)) (Operand.tmp 30))
                      none [10, 13]]
def l9r6 : List AOper :=
  [AOper.mk (some 32) (AOp.mv (Operand.tmp 5)) none [],
                        AOper.mk (some 33) (AOp.load true 3 (Operand.tmp 3)) none [],
                        AOper.mk (some 34) (AOp.load true 3 (Operand.tmp 4)) none [],
                        AOper.mk (some 35) (AOp.call 37 [Operand.tmp 33, Operand.tmp 34]) none [1, 2],
                        AOper.mk (some 36) (AOp.binB BinOp.eql (Operand.tmp 32) (Operand.tmp 35)) none [0, 3],
                        AOper.mk (some 2) (AOp.mv (Operand.tmp 36)) none [4, 3, 0, 1, 2, 3, 4]]
def l9r7a : List AOper :=
  [AOper.mk (some 37) (AOp.mv (Operand.tmp 5)) none [], AOper.mk (some 38) (AOp.load true 3 (Operand.tmp 3)) none [], AOper.mk (some 39) (AOp.load true 3 (Operand.tmp 4)) none [], AOper.mk (some 40) (AOp.call 31 [Operand.tmp 38, Operand.tmp 39]) none [1, 2], AOper.mk (some 41) (AOp.call 34 [Operand.tmp 40]) none [3, 3], AOper.mk (some 42) (AOp.load true 3 (Operand.tmp 4)) none [], AOper.mk (some 43) (AOp.call 34 [Operand.tmp 42]) none [5, 4], AOper.mk (some 44) (AOp.bin BinOp.eql (Operand.tmp 41) (Operand.tmp 43)) none [4, 6], AOper.mk (some 45) (AOp.binB BinOp.eql (Operand.tmp 37) (Operand.tmp 44)) none [0, 7], AOper.mk (some 46) (AOp.mv (Operand.tmp 45)) none [8, 6], AOper.mk (some 47) (AOp.load true 3 (Operand.tmp 3)) (some (46, true)) [9], AOper.mk (some 48) (AOp.load true 3 (Operand.tmp 3)) (some (46, true)) [9]]
def l9r7b : List AOper :=
  [AOper.mk (some 49) (AOp.call 24 [Operand.tmp 47, Operand.tmp 48]) (some (46, true)) [10, 11, 9, 9], AOper.mk (some 50) (AOp.pick (Operand.tmp 46) (Operand.tmp 49) (Operand.const (Value.bool false)))
                      none [9, 12], AOper.mk (some 2) (AOp.mv (Operand.tmp 50)) none
                      [13, 12, 0, 1, 2, 3, 4, 5, 6, 7, 8, 9, 10, 11, 12, 13]]
def l9r7 : List AOper := l9r7a ++ l9r7b
def l9 : AFn :=
  (AFn.mk 51 1
    (ACode.seq (ACode.reg l9r0)
      (ACode.seq
        (ACode.seq
          (ACode.reg l9r1)
          (ACode.cond (Operand.tmp 8)
            (ACode.seq (ACode.reg l9r2) ACode.ret)
            ACode.skip))
        (ACode.seq
          (ACode.reg l9r3)
          (ACode.seq
            (ACode.reg l9r4)
            (ACode.seq
              (ACode.seq
                (ACode.reg l9r5)
                (ACode.cond (Operand.tmp 31)
                  (ACode.seq
                    (ACode.reg l9r6)
                    ACode.ret)
                  ACode.skip))
              (ACode.seq
                (ACode.draw l9r7)
                ACode.ret))))))
    [ARes.tmp 2])
theorem l9_eq : lowFn Try.prog 9 = some l9 := by kernel_rfl
def l21r0 : List AOper :=
  [AOper.mk (some 2) (AOp.box (Operand.tmp 0)) none [], AOper.mk (some 3) (AOp.box (Operand.tmp 1)) none [],
          AOper.mk (some 4)
            (AOp.alloc
              [Value.int IntKind.i64 0, Value.int IntKind.i64 0,
                Value.int IntKind.i64 0])
            none []]
def l21r1 : List AOper :=
  [AOper.mk (some 9) (AOp.load true 3 (Operand.tmp 2)) none [],
              AOper.mk (some 10) (AOp.call 59 [Operand.tmp 9]) none [0],
              AOper.mk (some 11) (AOp.un UnOp.not (Operand.tmp 10)) none [1],
              AOper.mk (some 12) (AOp.mv (Operand.tmp 11)) none [2, 1],
              AOper.mk (some 13) (AOp.load true 5 (Operand.tmp 3)) (some (12, false)) [3],
              AOper.mk (some 14) (AOp.call 52 [Operand.tmp 13]) (some (12, false)) [4, 3, 3],
              AOper.mk (some 15) (AOp.un UnOp.not (Operand.tmp 14)) (some (12, false)) [5, 3],
              AOper.mk (some 16) (AOp.pick (Operand.tmp 12) (Operand.const (Value.bool true)) (Operand.tmp 15)) none
                [3, 6],
              AOper.mk (some 17) (AOp.mv (Operand.tmp 16)) none [7, 5],
              AOper.mk (some 18) (AOp.load true 3 (Operand.tmp 2)) (some (17, false)) [8],
              AOper.mk (some 19) (AOp.call 60 [Operand.tmp 18]) (some (17, false)) [9, 8, 8],
              AOper.mk (some 20) (AOp.len (Operand.tmp 19)) (some (17, false)) [10, 8],
              AOper.mk (some 21)
                (AOp.bin BinOp.gtr (Operand.tmp 20) (Operand.const (Value.int IntKind.i64 60)))
                (some (17, false)) [11, 8],
              AOper.mk (some 22) (AOp.pick (Operand.tmp 17) (Operand.const (Value.bool true)) (Operand.tmp 21)) none
                [8, 12]]
def l21r2 : List AOper :=
  [AOper.mk (some 23)
                    (AOp.build
                      [Value.int IntKind.i64 0, Value.int IntKind.i64 0,
                        Value.int IntKind.i64 0]
                      [])
                    none [],
                  AOper.mk none (AOp.store 3 (Operand.tmp 4) (Operand.tmp 23)) none [0, 0]]
def l21r3 : List AOper :=
  [AOper.mk (some 24) (AOp.load true 3 (Operand.tmp 2)) none [],
              AOper.mk (some 25) (AOp.call 60 [Operand.tmp 24]) none [0],
              AOper.mk (some 5) (AOp.mv (Operand.tmp 25)) none [1, 1, 0, 1]]
def l21r4 : List AOper :=
  [AOper.mk (some 26) (AOp.mv (Operand.tmp 5)) none [],
                AOper.mk (some 27) (AOp.len (Operand.tmp 26)) none [0],
                AOper.mk (some 28) (AOp.load true 5 (Operand.tmp 3)) none [],
                AOper.mk (some 29) (AOp.call 53 [Operand.tmp 27, Operand.tmp 28]) none [1, 2],
                AOper.mk (some 6) (AOp.mv (Operand.tmp 29)) none [3, 3, 0, 1, 2, 3]]
def l21r5 : List AOper :=
  [AOper.mk (some 30) (AOp.bslice 1 [Value.int IntKind.i64 0] [] 0) none [],
                  AOper.mk (some 7) (AOp.mv (Operand.tmp 30)) none [0, 0]]
def l21r6 : List AOper :=
  [AOper.mk (some 8) (AOp.mv (Operand.const (Value.int IntKind.i64 0))) none []]
def l21r7 : List AOper :=
  [AOper.mk (some 31) (AOp.mv (Operand.tmp 8)) none [],
                              AOper.mk (some 32) (AOp.mv (Operand.tmp 6)) none [],
                              AOper.mk (some 33) (AOp.len (Operand.tmp 32)) none [1],
                              AOper.mk (some 34) (AOp.bin BinOp.lss (Operand.tmp 31) (Operand.tmp 33)) none [0, 2]]
def l21r8 : List AOper :=
  [AOper.mk (some 37) (AOp.mv (Operand.tmp 7)) none [],
                                AOper.mk (some 38) (AOp.mv (Operand.tmp 5)) none [],
                                AOper.mk (some 39) (AOp.mv (Operand.tmp 6)) none [],
                                AOper.mk (some 40) (AOp.mv (Operand.tmp 8)) none [],
                                AOper.mk (some 41) (AOp.idxA 1 (Operand.tmp 39) (Operand.tmp 40)) none [2, 3],
                                AOper.mk (some 42) (AOp.load false 1 (Operand.tmp 41)) none [4],
                                AOper.mk (some 43) (AOp.idxA 1 (Operand.tmp 38) (Operand.tmp 42)) none [1, 5],
                                AOper.mk (some 44) (AOp.load false 1 (Operand.tmp 43)) none [6],
                                AOper.mk (some 45)
                                  (AOp.bslice 1 [Value.int IntKind.i64 0] [(0, Operand.tmp 44)] 1) none [7],
                                AOper.mk (some 46) (AOp.append 1 (Operand.tmp 37) (Operand.tmp 45)) none [0, 8],
                                AOper.mk (some 7) (AOp.mv (Operand.tmp 46)) none [9, 9, 0, 1, 2, 3, 4, 5, 6, 7, 8, 9]]
def l21r9 : List AOper :=
  [AOper.mk (some 35) (AOp.mv (Operand.tmp 8)) none [],
                              AOper.mk (some 36)
                                (AOp.bin BinOp.add (Operand.tmp 35)
                                  (Operand.const (Value.int IntKind.i64 1)))
                                none [0],
                              AOper.mk (some 8) (AOp.mv (Operand.tmp 36)) none [1, 0, 1]]
def l21r10 : List AOper :=
  [AOper.mk (some 47) (AOp.mv (Operand.tmp 7)) none [],
                      AOper.mk (some 48) (AOp.call 61 [Operand.tmp 47]) none [0],
                      AOper.mk none (AOp.store 3 (Operand.tmp 4) (Operand.tmp 48)) none [1, 1, 0, 1]]
def l21 : AFn :=
  (AFn.mk 49 2
    (ACode.seq
      (ACode.reg l21r0)
      (ACode.seq
        (ACode.seq
          (ACode.reg l21r1)
          (ACode.cond (Operand.tmp 22)
            (ACode.seq
              (ACode.reg l21r2)
              ACode.ret)
            ACode.skip))
        (ACode.seq
          (ACode.reg l21r3)
          (ACode.seq
            (ACode.reg l21r4)
            (ACode.seq
              (ACode.reg l21r5)
              (ACode.seq
                (ACode.seq
                  (ACode.reg l21r6)
                  (ACode.block 0
                    (ACode.loop
                      (ACode.seq
                        (ACode.seq
                          (ACode.reg l21r7)
                          (ACode.cond (Operand.tmp 34) ACode.skip (ACode.exit 0)))
                        (ACode.seq
                          (ACode.block 1
                            (ACode.reg l21r8))
                          (ACode.reg l21r9))))))
                (ACode.seq
                  (ACode.reg l21r10)
                  ACode.ret)))))))
    [ARes.cell 4 true 3])
theorem l21_eq : lowFn Try.prog 21 = some l21 := by kernel_rfl
def l24r0 : List AOper :=
  [AOper.mk (some 2) (AOp.box (Operand.tmp 0)) none [], AOper.mk (some 3) (AOp.box (Operand.tmp 1)) none [],
          AOper.mk (some 4) (AOp.mv (Operand.const (Value.bool false))) none []]
def l24r1 : List AOper :=
  [AOper.mk (some 5) (AOp.load true 3 (Operand.tmp 2)) none [],
              AOper.mk (some 6) (AOp.call 38 [Operand.tmp 5]) none [0],
              AOper.mk (some 7) (AOp.un UnOp.not (Operand.tmp 6)) none [1],
              AOper.mk (some 8) (AOp.mv (Operand.tmp 7)) none [2, 1],
              AOper.mk (some 9) (AOp.load true 3 (Operand.tmp 3)) (some (8, false)) [3],
              AOper.mk (some 10) (AOp.call 38 [Operand.tmp 9]) (some (8, false)) [4, 3, 3],
              AOper.mk (some 11) (AOp.un UnOp.not (Operand.tmp 10)) (some (8, false)) [5, 3],
              AOper.mk (some 12) (AOp.pick (Operand.tmp 8) (Operand.const (Value.bool true)) (Operand.tmp 11)) none
                [3, 6]]
def l24r2 : List AOper :=
  [AOper.mk (some 4) (AOp.mv (Operand.const (Value.bool false))) none []]
def l24r3a : List AOper :=
  [AOper.mk (some 13) (AOp.load true 3 (Operand.tmp 2)) none [], AOper.mk (some 14) (AOp.load true 3 (Operand.tmp 3)) none [], AOper.mk (some 15) (AOp.call 31 [Operand.tmp 13, Operand.tmp 14]) none [0, 1], AOper.mk (some 16) (AOp.load true 3 (Operand.tmp 3)) none []]
def l24r3b : List AOper :=
  [AOper.mk (some 17) (AOp.call 62 [Operand.tmp 16]) none [3, 2], AOper.mk (some 18)
                (AOp.eqS false [(0, some IntKind.i64), (1, some IntKind.i64), (2, some IntKind.i64)] (Operand.tmp 15)
                  (Operand.tmp 17))
                none [2, 4], AOper.mk (some 4) (AOp.mv (Operand.tmp 18)) none [5, 4, 0, 1, 2, 3, 4, 5]]
def l24r3 : List AOper := l24r3a ++ l24r3b
def l24 : AFn :=
  (AFn.mk 19 2
    (ACode.seq
      (ACode.reg l24r0)
      (ACode.seq
        (ACode.seq
          (ACode.reg l24r1)
          (ACode.cond (Operand.tmp 12)
            (ACode.seq (ACode.reg l24r2) ACode.ret)
            ACode.skip))
        (ACode.seq
          (ACode.draw l24r3)
          ACode.ret)))
    [ARes.tmp 4])
theorem l24_eq : lowFn Try.prog 24 = some l24 := by kernel_rfl
def l31r0 : List AOper :=
  [AOper.mk (some 2) (AOp.box (Operand.tmp 0)) none [], AOper.mk (some 3) (AOp.box (Operand.tmp 1)) none [],
          AOper.mk (some 4)
            (AOp.alloc
              [Value.int IntKind.i64 0, Value.int IntKind.i64 0,
                Value.int IntKind.i64 0])
            none []]
def l31r1 : List AOper :=
  [AOper.mk (some 5) (AOp.load true 3 (Operand.tmp 2)) none [],
              AOper.mk (some 6) (AOp.call 38 [Operand.tmp 5]) none [0],
              AOper.mk (some 7) (AOp.un UnOp.not (Operand.tmp 6)) none [1],
              AOper.mk (some 8) (AOp.mv (Operand.tmp 7)) none [2, 1],
              AOper.mk (some 9) (AOp.load true 3 (Operand.tmp 3)) (some (8, false)) [3],
              AOper.mk (some 10) (AOp.call 38 [Operand.tmp 9]) (some (8, false)) [4, 3, 3],
              AOper.mk (some 11) (AOp.un UnOp.not (Operand.tmp 10)) (some (8, false)) [5, 3],
              AOper.mk (some 12) (AOp.pick (Operand.tmp 8) (Operand.const (Value.bool true)) (Operand.tmp 11)) none
                [3, 6]]
def l31r2 : List AOper :=
  [AOper.mk (some 13)
                    (AOp.build
                      [Value.int IntKind.i64 0, Value.int IntKind.i64 0,
                        Value.int IntKind.i64 0]
                      [])
                    none [],
                  AOper.mk none (AOp.store 3 (Operand.tmp 4) (Operand.tmp 13)) none [0, 0]]
def l31r3a : List AOper :=
  [AOper.mk (some 14) (AOp.load true 3 (Operand.tmp 2)) none [], AOper.mk (some 15) (AOp.call 62 [Operand.tmp 14]) none [0], AOper.mk (some 16) (AOp.load true 3 (Operand.tmp 3)) none []]
def l31r3b : List AOper :=
  [AOper.mk (some 17) (AOp.call 62 [Operand.tmp 16]) none [2, 1], AOper.mk (some 18) (AOp.call 65 [Operand.tmp 15, Operand.tmp 17]) none [1, 3, 3], AOper.mk none (AOp.store 3 (Operand.tmp 4) (Operand.tmp 18)) none [4, 4, 0, 1, 2, 3, 4]]
def l31r3 : List AOper := l31r3a ++ l31r3b
def l31 : AFn :=
  (AFn.mk 19 2
    (ACode.seq
      (ACode.reg l31r0)
      (ACode.seq
        (ACode.seq
          (ACode.reg l31r1)
          (ACode.cond (Operand.tmp 12)
            (ACode.seq
              (ACode.reg l31r2)
              ACode.ret)
            ACode.skip))
        (ACode.seq
          (ACode.draw l31r3)
          ACode.ret)))
    [ARes.cell 4 true 3])
theorem l31_eq : lowFn Try.prog 31 = some l31 := by kernel_rfl
def l34r0 : List AOper :=
  [AOper.mk (some 1) (AOp.box (Operand.tmp 0)) none [],
          AOper.mk (some 2) (AOp.mv (Operand.const (Value.int IntKind.i64 0))) none []]
def l34r1 : List AOper :=
  [AOper.mk (some 3) (AOp.load true 3 (Operand.tmp 1)) none [],
              AOper.mk (some 4) (AOp.call 38 [Operand.tmp 3]) none [0],
              AOper.mk (some 5) (AOp.un UnOp.not (Operand.tmp 4)) none [1]]
def l34r2 : List AOper :=
  [AOper.mk (some 2) (AOp.mv (Operand.const (Value.int IntKind.i64 (-1)))) none []]
def l34r3 : List AOper :=
  [AOper.mk (some 6) (AOp.load true 3 (Operand.tmp 1)) none [],
              AOper.mk (some 7) (AOp.call 57 [Operand.tmp 6]) none [0],
              AOper.mk (some 2) (AOp.mv (Operand.tmp 7)) none [1, 1, 0, 1]]
def l34 : AFn :=
  (AFn.mk 8 1
    (ACode.seq
      (ACode.reg l34r0)
      (ACode.seq
        (ACode.seq
          (ACode.reg l34r1)
          (ACode.cond (Operand.tmp 5)
            (ACode.seq
              (ACode.reg l34r2)
              ACode.ret)
            ACode.skip))
        (ACode.seq
          (ACode.reg l34r3)
          ACode.ret)))
    [ARes.tmp 2])
theorem l34_eq : lowFn Try.prog 34 = some l34 := by kernel_rfl
def l36r0 : List AOper :=
  [AOper.mk (some 2)
            (AOp.alloc
              [Value.int IntKind.i64 0, Value.int IntKind.i64 0,
                Value.int IntKind.i64 0])
            none [],
          AOper.mk (some 3)
            (AOp.alloc
              [Value.int IntKind.i64 0, Value.int IntKind.i64 0,
                Value.int IntKind.i64 0])
            none []]
def l36r1 : List AOper :=
  [AOper.mk (some 7) (AOp.mv (Operand.tmp 0)) none [], AOper.mk (some 8) (AOp.call 44 [Operand.tmp 7]) none [0],
            AOper.mk (some 4) (AOp.mv (Operand.tmp 8)) none [1, 1, 0, 1]]
def l36r2 : List AOper :=
  [AOper.mk (some 9) (AOp.mv (Operand.tmp 4)) none [],
              AOper.mk (some 10) (AOp.call 56 [Operand.tmp 9]) none [0],
              AOper.mk (some 5)
                (AOp.alloc
                  [Value.int IntKind.i64 0, Value.int IntKind.i64 0,
                    Value.int IntKind.i64 0])
                none [],
              AOper.mk none (AOp.store 3 (Operand.tmp 5) (Operand.tmp 10)) none [2, 1, 1, 0, 1, 2]]
def l36r3 : List AOper :=
  [AOper.mk (some 11) (AOp.mv (Operand.tmp 4)) none [],
                AOper.mk (some 12) (AOp.call 56 [Operand.tmp 11]) none [0],
                AOper.mk (some 6)
                  (AOp.alloc
                    [Value.int IntKind.i64 0, Value.int IntKind.i64 0,
                      Value.int IntKind.i64 0])
                  none [],
                AOper.mk none (AOp.store 3 (Operand.tmp 6) (Operand.tmp 12)) none [2, 1, 1, 0, 1, 2]]
def l36r4 : List AOper :=
  [AOper.mk (some 13) (AOp.mv (Operand.tmp 4)) none [],
                    AOper.mk (some 14)
                      (AOp.call 46 [Operand.tmp 13, Operand.const (Value.int IntKind.i64 2)]) none [0],
                    AOper.mk (some 15)
                      (AOp.bin BinOp.eql (Operand.tmp 14) (Operand.const (Value.int IntKind.i64 0))) none
                      [1]]
def l36r5a : List AOper :=
  [AOper.mk (some 16) (AOp.load true 3 (Operand.tmp 5)) none [], AOper.mk (some 17) (AOp.mv (Operand.tmp 4)) none [], AOper.mk (some 18) (AOp.call 47 [Operand.tmp 17]) none [1]]
def l36r5b : List AOper :=
  [AOper.mk (some 19) (AOp.call 21 [Operand.tmp 16, Operand.tmp 18]) none [0, 2, 2], AOper.mk none (AOp.store 3 (Operand.tmp 6) (Operand.tmp 19)) none [3, 3, 0, 1, 2, 3]]
def l36r5 : List AOper := l36r5a ++ l36r5b
def l36r6a : List AOper :=
  [AOper.mk (some 20) (AOp.load true 3 (Operand.tmp 5)) none [], AOper.mk (some 21) (AOp.load true 3 (Operand.tmp 6)) none [], AOper.mk none (AOp.store 3 (Operand.tmp 2) (Operand.tmp 20)) none [0, 0]]
def l36r6b : List AOper :=
  [AOper.mk none (AOp.store 3 (Operand.tmp 3) (Operand.tmp 21)) none [1, 2, 0, 1, 2]]
def l36r6 : List AOper := l36r6a ++ l36r6b
def l36 : AFn :=
  (AFn.mk 22 1
    (ACode.seq
      (ACode.reg l36r0)
      (ACode.seq
        (ACode.reg l36r1)
        (ACode.seq
          (ACode.reg l36r2)
          (ACode.seq
            (ACode.reg l36r3)
            (ACode.seq
              (ACode.seq
                (ACode.reg l36r4)
                (ACode.cond (Operand.tmp 15)
                  (ACode.draw l36r5)
                  ACode.skip))
              (ACode.seq
                (ACode.draw l36r6)
                ACode.ret))))))
    [ARes.cell 2 true 3, ARes.cell 3 true 3])
theorem l36_eq : lowFn Try.prog 36 = some l36 := by kernel_rfl
def l37r0 : List AOper :=
  [AOper.mk (some 2) (AOp.box (Operand.tmp 0)) none [], AOper.mk (some 3) (AOp.box (Operand.tmp 1)) none [],
          AOper.mk (some 4) (AOp.mv (Operand.const (Value.bool false))) none []]
def l37r1a : List AOper :=
  [AOper.mk (some 5) (AOp.load true 3 (Operand.tmp 2)) none [], AOper.mk (some 6) (AOp.call 59 [Operand.tmp 5]) none [0], AOper.mk (some 7) (AOp.mv (Operand.tmp 6)) none [1, 1], AOper.mk (some 8) (AOp.load true 3 (Operand.tmp 3)) (some (7, true)) [2], AOper.mk (some 9) (AOp.call 59 [Operand.tmp 8]) (some (7, true)) [3, 2, 2], AOper.mk (some 10) (AOp.pick (Operand.tmp 7) (Operand.tmp 9) (Operand.const (Value.bool false))) none
              [2, 4], AOper.mk (some 11) (AOp.mv (Operand.tmp 10)) none [5, 4], AOper.mk (some 12) (AOp.load true 3 (Operand.tmp 3)) (some (11, true)) [6], AOper.mk (some 13) (AOp.call 60 [Operand.tmp 12]) (some (11, true)) [7, 6, 6], AOper.mk (some 14) (AOp.load true 3 (Operand.tmp 2)) (some (11, true)) [6], AOper.mk (some 15) (AOp.call 60 [Operand.tmp 14]) (some (11, true)) [9, 8, 6], AOper.mk (some 16) (AOp.call 66 [Operand.tmp 13, Operand.tmp 15]) (some (11, true)) [8, 10, 10, 6], AOper.mk (some 17) (AOp.len (Operand.tmp 16)) (some (11, true)) [11, 6], AOper.mk (some 18) (AOp.load true 3 (Operand.tmp 3)) (some (11, true)) [6], AOper.mk (some 19) (AOp.call 60 [Operand.tmp 18]) (some (11, true)) [13, 11, 6], AOper.mk (some 20) (AOp.len (Operand.tmp 19)) (some (11, true)) [14, 6]]
def l37r1b : List AOper :=
  [AOper.mk (some 21) (AOp.bin BinOp.eql (Operand.tmp 17) (Operand.tmp 20)) (some (11, true)) [12, 15, 6], AOper.mk (some 22) (AOp.pick (Operand.tmp 11) (Operand.tmp 21) (Operand.const (Value.bool false))) none
              [6, 16], AOper.mk (some 4) (AOp.mv (Operand.tmp 22)) none
              [17, 14, 0, 1, 2, 3, 4, 5, 6, 7, 8, 9, 10, 11, 12, 13, 14, 15, 16, 17]]
def l37r1 : List AOper := l37r1a ++ l37r1b
def l37 : AFn :=
  (AFn.mk 23 2
    (ACode.seq
      (ACode.reg l37r0)
      (ACode.seq
        (ACode.draw l37r1)
        ACode.ret))
    [ARes.tmp 4])
theorem l37_eq : lowFn Try.prog 37 = some l37 := by kernel_rfl
def l38r0 : List AOper :=
  [AOper.mk (some 1) (AOp.box (Operand.tmp 0)) none [],
          AOper.mk (some 2) (AOp.mv (Operand.const (Value.bool false))) none []]
def l38r1 : List AOper :=
  [AOper.mk (some 3) (AOp.fld 0 (Operand.tmp 1)) none [],
            AOper.mk (some 4) (AOp.load false 1 (Operand.tmp 3)) none [0],
            AOper.mk (some 5) (AOp.call 69 [Operand.tmp 4, Operand.const (Value.int IntKind.i64 100)]) none
              [1],
            AOper.mk (some 6) (AOp.mv (Operand.tmp 5)) none [2, 2],
            AOper.mk (some 7) (AOp.fld 1 (Operand.tmp 1)) (some (6, true)) [3],
            AOper.mk (some 8) (AOp.load false 1 (Operand.tmp 7)) (some (6, true)) [4, 3],
            AOper.mk (some 9) (AOp.call 69 [Operand.tmp 8, Operand.const (Value.int IntKind.i64 101)])
              (some (6, true)) [5, 3, 3],
            AOper.mk (some 10) (AOp.pick (Operand.tmp 6) (Operand.tmp 9) (Operand.const (Value.bool false))) none
              [3, 6],
            AOper.mk (some 11) (AOp.mv (Operand.tmp 10)) none [7, 6],
            AOper.mk (some 12) (AOp.fld 2 (Operand.tmp 1)) (some (11, true)) [8],
            AOper.mk (some 13) (AOp.load false 1 (Operand.tmp 12)) (some (11, true)) [9, 8],
            AOper.mk (some 14) (AOp.call 55 [Operand.tmp 13]) (some (11, true)) [10, 8, 8],
            AOper.mk (some 15) (AOp.pick (Operand.tmp 11) (Operand.tmp 14) (Operand.const (Value.bool false))) none
              [8, 11],
            AOper.mk (some 2) (AOp.mv (Operand.tmp 15)) none [12, 11, 0, 1, 2, 3, 4, 5, 6, 7, 8, 9, 10, 11, 12]]
def l38 : AFn :=
  (AFn.mk 16 1
    (ACode.seq
      (ACode.reg l38r0)
      (ACode.seq
        (ACode.reg l38r1)
        ACode.ret))
    [ARes.tmp 2])
theorem l38_eq : lowFn Try.prog 38 = some l38 := by kernel_rfl
def l44r0 : List AOper :=
  [AOper.mk (some 2) (AOp.mv (Operand.const (Value.pointer none))) none []]
def l44r1 : List AOper :=
  [AOper.mk (some 3) (AOp.mv (Operand.tmp 0)) none [], AOper.mk (some 4) (AOp.len (Operand.tmp 3)) none [0],
              AOper.mk (some 5)
                (AOp.bin BinOp.gtr (Operand.tmp 4) (Operand.const (Value.int IntKind.i64 2000))) none [1]]
def l44r2 : List AOper :=
  [AOper.mk (some 6) (AOp.mv (Operand.tmp 0)) none [],
                AOper.mk (some 7)
                  (AOp.slice 1 (Operand.tmp 6) none (some (Operand.const (Value.int IntKind.i64 2000))))
                  none [0],
                AOper.mk (some 0) (AOp.mv (Operand.tmp 7)) none [1, 0, 1]]
def l44r3 : List AOper :=
  [AOper.mk (some 8) (AOp.mv (Operand.tmp 0)) none [],
              AOper.mk (some 9)
                (AOp.build [Value.slice none 0 0, Value.int IntKind.i64 0] [(0, 1, Operand.tmp 8)]) none
                [0],
              AOper.mk (some 10) (AOp.box (Operand.tmp 9)) none [1],
              AOper.mk (some 2) (AOp.mv (Operand.tmp 10)) none [2, 0, 1, 2]]
def l44 : AFn :=
  (AFn.mk 11 1
    (ACode.seq (ACode.reg l44r0)
      (ACode.seq
        (ACode.seq
          (ACode.reg l44r1)
          (ACode.cond (Operand.tmp 5)
            (ACode.reg l44r2)
            ACode.skip))
        (ACode.seq
          (ACode.reg l44r3)
          ACode.ret)))
    [ARes.tmp 2])
theorem l44_eq : lowFn Try.prog 44 = some l44 := by kernel_rfl
def l45r0 : List AOper :=
  [AOper.mk (some 4) (AOp.mv (Operand.const (Value.int IntKind.i64 0))) none []]
def l45r1 : List AOper :=
  [AOper.mk (some 5) (AOp.mv (Operand.tmp 1)) none [], AOper.mk (some 6) (AOp.mv (Operand.tmp 0)) none [],
            AOper.mk (some 7) (AOp.mv (Operand.tmp 1)) none [], AOper.mk (some 8) (AOp.len (Operand.tmp 7)) none [2],
            AOper.mk (some 9) (AOp.call 46 [Operand.tmp 6, Operand.tmp 8]) none [1, 3],
            AOper.mk (some 10) (AOp.idxA 1 (Operand.tmp 5) (Operand.tmp 9)) none [0, 4],
            AOper.mk (some 11) (AOp.load false 1 (Operand.tmp 10)) none [5],
            AOper.mk (some 4) (AOp.mv (Operand.tmp 11)) none [6, 4, 0, 1, 2, 3, 4, 5, 6]]
def l45 : AFn :=
  (AFn.mk 12 2
    (ACode.seq (ACode.reg l45r0)
      (ACode.seq
        (ACode.reg l45r1)
        ACode.ret))
    [ARes.tmp 4])
theorem l45_eq : lowFn Try.prog 45 = some l45 := by kernel_rfl
def l46r0 : List AOper :=
  [AOper.mk (some 4) (AOp.mv (Operand.const (Value.int IntKind.i64 0))) none []]
def l46r1 : List AOper :=
  [AOper.mk (some 7) (AOp.mv (Operand.tmp 0)) none [], AOper.mk (some 8) (AOp.mv (Operand.tmp 0)) none [],
            AOper.mk (some 9) (AOp.nilck (Operand.tmp 8)) none [1],
            AOper.mk (some 10) (AOp.fld 1 (Operand.tmp 9)) none [2],
            AOper.mk (some 11) (AOp.load false 1 (Operand.tmp 10)) none [3],
            AOper.mk (some 12)
              (AOp.bin BinOp.add (Operand.tmp 11) (Operand.const (Value.int IntKind.i64 1))) none [4],
            AOper.mk (some 13) (AOp.nilck (Operand.tmp 7)) none [0, 0, 1, 2, 3, 4, 5],
            AOper.mk (some 14) (AOp.fld 1 (Operand.tmp 13)) none [6, 0, 1, 2, 3, 4, 5],
            AOper.mk none (AOp.store 1 (Operand.tmp 14) (Operand.tmp 12)) none [7, 5, 0, 1, 2, 3, 4, 5]]
def l46r2 : List AOper :=
  [AOper.mk (some 15) (AOp.mv (Operand.tmp 1)) none [],
                AOper.mk (some 16)
                  (AOp.bin BinOp.lss (Operand.tmp 15) (Operand.const (Value.int IntKind.i64 1))) none [0],
                AOper.mk (some 17) (AOp.mv (Operand.tmp 16)) none [1],
                AOper.mk (some 18) (AOp.mv (Operand.tmp 0)) (some (17, false)) [2],
                AOper.mk (some 19) (AOp.nilck (Operand.tmp 18)) (some (17, false)) [3, 2],
                AOper.mk (some 20) (AOp.fld 0 (Operand.tmp 19)) (some (17, false)) [4, 2],
                AOper.mk (some 21) (AOp.load false 1 (Operand.tmp 20)) (some (17, false)) [5, 2],
                AOper.mk (some 22) (AOp.len (Operand.tmp 21)) (some (17, false)) [6, 2],
                AOper.mk (some 23)
                  (AOp.bin BinOp.eql (Operand.tmp 22) (Operand.const (Value.int IntKind.i64 0)))
                  (some (17, false)) [7, 2],
                AOper.mk (some 24) (AOp.pick (Operand.tmp 17) (Operand.const (Value.bool true)) (Operand.tmp 23)) none
                  [2, 8]]
def l46r3 : List AOper :=
  [AOper.mk (some 4) (AOp.mv (Operand.const (Value.int IntKind.i64 0))) none []]
def l46r4 : List AOper :=
  [AOper.mk (some 25) (AOp.mv (Operand.tmp 0)) none [],
                AOper.mk (some 26) (AOp.nilck (Operand.tmp 25)) none [0],
                AOper.mk (some 27) (AOp.fld 1 (Operand.tmp 26)) none [1],
                AOper.mk (some 28) (AOp.load false 1 (Operand.tmp 27)) none [2],
                AOper.mk (some 29)
                  (AOp.bin BinOp.sub (Operand.tmp 28) (Operand.const (Value.int IntKind.i64 1))) none [3],
                AOper.mk (some 5) (AOp.mv (Operand.tmp 29)) none [4, 0, 1, 2, 3, 4]]
def l46r5 : List AOper :=
  [AOper.mk (some 30) (AOp.mv (Operand.tmp 5)) none [],
                    AOper.mk (some 31) (AOp.mv (Operand.tmp 0)) none [],
                    AOper.mk (some 32) (AOp.nilck (Operand.tmp 31)) none [1],
                    AOper.mk (some 33) (AOp.fld 0 (Operand.tmp 32)) none [2],
                    AOper.mk (some 34) (AOp.load false 1 (Operand.tmp 33)) none [3],
                    AOper.mk (some 35) (AOp.len (Operand.tmp 34)) none [4],
                    AOper.mk (some 36) (AOp.bin BinOp.lss (Operand.tmp 30) (Operand.tmp 35)) none [0, 5]]
def l46r6 : List AOper :=
  [AOper.mk (some 37) (AOp.mv (Operand.tmp 0)) none [],
                        AOper.mk (some 38) (AOp.nilck (Operand.tmp 37)) none [0],
                        AOper.mk (some 39) (AOp.fld 0 (Operand.tmp 38)) none [1],
                        AOper.mk (some 40) (AOp.load false 1 (Operand.tmp 39)) none [2],
                        AOper.mk (some 41) (AOp.mv (Operand.tmp 5)) none [],
                        AOper.mk (some 42) (AOp.idxA 1 (Operand.tmp 40) (Operand.tmp 41)) none [3, 4],
                        AOper.mk (some 43) (AOp.load false 1 (Operand.tmp 42)) none [5],
                        AOper.mk (some 44) (AOp.conv IntKind.i64 (Operand.tmp 43)) none [6],
                        AOper.mk (some 45) (AOp.mv (Operand.tmp 1)) none [],
                        AOper.mk (some 46) (AOp.bin BinOp.rem (Operand.tmp 44) (Operand.tmp 45)) none [7, 8],
                        AOper.mk (some 4) (AOp.mv (Operand.tmp 46)) none [9, 0, 1, 2, 3, 4, 5, 6, 7, 8, 9]]
def l46r7a : List AOper :=
  [AOper.mk (some 47) (AOp.mv (Operand.tmp 0)) none [], AOper.mk (some 48) (AOp.nilck (Operand.tmp 47)) none [0], AOper.mk (some 49) (AOp.fld 0 (Operand.tmp 48)) none [1], AOper.mk (some 50) (AOp.load false 1 (Operand.tmp 49)) none [2], AOper.mk (some 51) (AOp.mv (Operand.tmp 5)) none [], AOper.mk (some 52) (AOp.mv (Operand.tmp 0)) none [], AOper.mk (some 53) (AOp.nilck (Operand.tmp 52)) none [5], AOper.mk (some 54) (AOp.fld 0 (Operand.tmp 53)) none [6], AOper.mk (some 55) (AOp.load false 1 (Operand.tmp 54)) none [7], AOper.mk (some 56) (AOp.len (Operand.tmp 55)) none [8], AOper.mk (some 57) (AOp.bin BinOp.rem (Operand.tmp 51) (Operand.tmp 56)) none [4, 9], AOper.mk (some 58) (AOp.idxA 1 (Operand.tmp 50) (Operand.tmp 57)) none [3, 10], AOper.mk (some 59) (AOp.load false 1 (Operand.tmp 58)) none [11], AOper.mk (some 60) (AOp.conv IntKind.i64 (Operand.tmp 59)) none [12], AOper.mk (some 61)
                      (AOp.bin BinOp.mul (Operand.tmp 60) (Operand.const (Value.int IntKind.i64 131))) none
                      [13], AOper.mk (some 62) (AOp.mv (Operand.tmp 0)) none [], AOper.mk (some 63) (AOp.nilck (Operand.tmp 62)) none [15], AOper.mk (some 64) (AOp.fld 0 (Operand.tmp 63)) none [16], AOper.mk (some 65) (AOp.load false 1 (Operand.tmp 64)) none [17], AOper.mk (some 66) (AOp.mv (Operand.tmp 5)) none [], AOper.mk (some 67)
                      (AOp.bin BinOp.mul (Operand.tmp 66) (Operand.const (Value.int IntKind.i64 7))) none
                      [19], AOper.mk (some 68)
                      (AOp.bin BinOp.add (Operand.tmp 67) (Operand.const (Value.int IntKind.i64 3))) none
                      [20], AOper.mk (some 69) (AOp.mv (Operand.tmp 0)) none [], AOper.mk (some 70) (AOp.nilck (Operand.tmp 69)) none [22], AOper.mk (some 71) (AOp.fld 0 (Operand.tmp 70)) none [23], AOper.mk (some 72) (AOp.load false 1 (Operand.tmp 71)) none [24], AOper.mk (some 73) (AOp.len (Operand.tmp 72)) none [25], AOper.mk (some 74) (AOp.bin BinOp.rem (Operand.tmp 68) (Operand.tmp 73)) none [21, 26], AOper.mk (some 75) (AOp.idxA 1 (Operand.tmp 65) (Operand.tmp 74)) none [18, 27], AOper.mk (some 76) (AOp.load false 1 (Operand.tmp 75)) none [28], AOper.mk (some 77) (AOp.conv IntKind.i64 (Operand.tmp 76)) none [29], AOper.mk (some 78)
                      (AOp.bin BinOp.mul (Operand.tmp 77) (Operand.const (Value.int IntKind.i64 1117))) none
                      [30], AOper.mk (some 79) (AOp.bin BinOp.add (Operand.tmp 61) (Operand.tmp 78)) none [14, 31], AOper.mk (some 80) (AOp.mv (Operand.tmp 5)) none [], AOper.mk (some 81)
                      (AOp.bin BinOp.mul (Operand.tmp 80) (Operand.const (Value.int IntKind.i64 29))) none
                      [33], AOper.mk (some 82) (AOp.bin BinOp.add (Operand.tmp 79) (Operand.tmp 81)) none [32, 34], AOper.mk (some 83) (AOp.mv (Operand.tmp 5)) none [], AOper.mk (some 84) (AOp.mv (Operand.tmp 0)) none [], AOper.mk (some 85) (AOp.nilck (Operand.tmp 84)) none [37], AOper.mk (some 86) (AOp.fld 0 (Operand.tmp 85)) none [38], AOper.mk (some 87) (AOp.load false 1 (Operand.tmp 86)) none [39], AOper.mk (some 88) (AOp.len (Operand.tmp 87)) none [40], AOper.mk (some 89) (AOp.bin BinOp.quo (Operand.tmp 83) (Operand.tmp 88)) none [36, 41], AOper.mk (some 90)
                      (AOp.bin BinOp.mul (Operand.tmp 89) (Operand.const (Value.int IntKind.i64 53))) none
                      [42]]
def l46r7b : List AOper :=
  [AOper.mk (some 91) (AOp.bin BinOp.add (Operand.tmp 82) (Operand.tmp 90)) none [35, 43], AOper.mk (some 6) (AOp.mv (Operand.tmp 91)) none
                      [44, 0, 1, 2, 3, 4, 5, 6, 7, 8, 9, 10, 11, 12, 13, 14, 15, 16, 17, 18, 19, 20, 21, 22, 23, 24, 25,
                        26, 27, 28, 29, 30, 31, 32, 33, 34, 35, 36, 37, 38, 39, 40, 41, 42, 43, 44]]
def l46r7 : List AOper := l46r7a ++ l46r7b
def l46r8 : List AOper :=
  [AOper.mk (some 92) (AOp.mv (Operand.tmp 6)) none [],
                      AOper.mk (some 93) (AOp.mv (Operand.tmp 6)) none [],
                      AOper.mk (some 94)
                        (AOp.bin BinOp.quo (Operand.tmp 93) (Operand.const (Value.int IntKind.i64 64))) none
                        [1],
                      AOper.mk (some 95) (AOp.bin BinOp.xor (Operand.tmp 92) (Operand.tmp 94)) none [0, 2],
                      AOper.mk (some 6) (AOp.mv (Operand.tmp 95)) none [3, 0, 1, 2, 3]]
def l46r9 : List AOper :=
  [AOper.mk (some 96) (AOp.mv (Operand.tmp 6)) none [],
                        AOper.mk (some 97) (AOp.mv (Operand.tmp 1)) none [],
                        AOper.mk (some 98) (AOp.bin BinOp.rem (Operand.tmp 96) (Operand.tmp 97)) none [0, 1],
                        AOper.mk (some 4) (AOp.mv (Operand.tmp 98)) none [2, 0, 1, 2]]
def l46 : AFn :=
  (AFn.mk 99 2
    (ACode.seq (ACode.reg l46r0)
      (ACode.seq
        (ACode.reg l46r1)
        (ACode.seq
          (ACode.seq
            (ACode.reg l46r2)
            (ACode.cond (Operand.tmp 24)
              (ACode.seq
                (ACode.reg l46r3)
                ACode.ret)
              ACode.skip))
          (ACode.seq
            (ACode.reg l46r4)
            (ACode.seq
              (ACode.seq
                (ACode.reg l46r5)
                (ACode.cond (Operand.tmp 36)
                  (ACode.seq
                    (ACode.reg l46r6)
                    ACode.ret)
                  ACode.skip))
              (ACode.seq
                (ACode.draw l46r7)
                (ACode.seq
                  (ACode.reg l46r8)
                  (ACode.seq
                    (ACode.reg l46r9)
                    ACode.ret))))))))
    [ARes.tmp 4])
theorem l46_eq : lowFn Try.prog 46 = some l46 := by kernel_rfl
def l47r0 : List AOper :=
  [AOper.mk (some 2)
            (AOp.alloc
              [Value.int IntKind.i64 0, Value.int IntKind.i64 0,
                Value.int IntKind.i64 0, Value.bool false, Value.bool false])
            none []]
def l47r1 : List AOper :=
  [AOper.mk (some 4) (AOp.mv (Operand.tmp 0)) none [],
            AOper.mk (some 5)
              (AOp.bslice 1 [Value.int IntKind.i64 0]
                [(0, Operand.const (Value.int IntKind.i64 1)),
                  (1, Operand.const (Value.int IntKind.i64 2)),
                  (2, Operand.const (Value.int IntKind.i64 (-1))),
                  (3, Operand.const (Value.int IntKind.i64 3)),
                  (4, Operand.const (Value.int IntKind.i64 (-2))),
                  (5, Operand.const (Value.int IntKind.i64 1)),
                  (6, Operand.const (Value.int IntKind.i64 5))]
                7)
              none [],
            AOper.mk (some 6) (AOp.call 45 [Operand.tmp 4, Operand.tmp 5]) none [0, 1],
            AOper.mk (some 7)
              (AOp.build
                [Value.int IntKind.i64 0, Value.int IntKind.i64 0,
                  Value.int IntKind.i64 0, Value.bool false, Value.bool false]
                [(2, 1, Operand.tmp 6)])
              none [2],
            AOper.mk (some 3)
              (AOp.alloc
                [Value.int IntKind.i64 0, Value.int IntKind.i64 0,
                  Value.int IntKind.i64 0, Value.bool false, Value.bool false])
              none [],
            AOper.mk none (AOp.store 5 (Operand.tmp 3) (Operand.tmp 7)) none [4, 3, 2, 0, 1, 2, 3, 4]]
def l47r2 : List AOper :=
  [AOper.mk (some 8) (AOp.mv (Operand.tmp 0)) none [],
                AOper.mk (some 9) (AOp.call 46 [Operand.tmp 8, Operand.const (Value.int IntKind.i64 2)])
                  none [0],
                AOper.mk (some 10)
                  (AOp.bin BinOp.eql (Operand.tmp 9) (Operand.const (Value.int IntKind.i64 0))) none [1]]
def l47r3 : List AOper :=
  [AOper.mk (some 11) (AOp.fld 3 (Operand.tmp 3)) none [],
                    AOper.mk none (AOp.store 1 (Operand.tmp 11) (Operand.const (Value.bool true))) none [0]]
def l47r4 : List AOper :=
  [AOper.mk (some 12) (AOp.mv (Operand.tmp 0)) none [],
                    AOper.mk (some 13) (AOp.mv (Operand.tmp 0)) none [],
                    AOper.mk (some 14)
                      (AOp.call 46 [Operand.tmp 13, Operand.const (Value.int IntKind.i64 12)]) none [1],
                    AOper.mk (some 15)
                      (AOp.bslice 1 [Value.int IntKind.i64 0]
                        [(0, Operand.const (Value.int IntKind.i64 1)),
                          (1, Operand.const (Value.int IntKind.i64 2)),
                          (2, Operand.const (Value.int IntKind.i64 0)),
                          (3, Operand.const (Value.int IntKind.i64 (-1))),
                          (4, Operand.const (Value.int IntKind.i64 (-3))), (5, Operand.tmp 14),
                          (6, Operand.const (Value.int IntKind.i64 30)),
                          (7, Operand.const (Value.int IntKind.i64 (-30)))]
                        8)
                      none [2],
                    AOper.mk (some 16) (AOp.call 45 [Operand.tmp 12, Operand.tmp 15]) none [0, 3, 2],
                    AOper.mk (some 17) (AOp.fld 0 (Operand.tmp 3)) none [0, 1, 2, 3, 4],
                    AOper.mk none (AOp.store 1 (Operand.tmp 17) (Operand.tmp 16)) none [5, 4, 4, 0, 1, 2, 3, 4]]
def l47r5 : List AOper :=
  [AOper.mk (some 18) (AOp.mv (Operand.tmp 0)) none [],
                  AOper.mk (some 19) (AOp.call 46 [Operand.tmp 18, Operand.const (Value.int IntKind.i64 2)])
                    none [0],
                  AOper.mk (some 20)
                    (AOp.bin BinOp.eql (Operand.tmp 19) (Operand.const (Value.int IntKind.i64 0))) none
                    [1]]
def l47r6 : List AOper :=
  [AOper.mk (some 21) (AOp.fld 4 (Operand.tmp 3)) none [],
                      AOper.mk none (AOp.store 1 (Operand.tmp 21) (Operand.const (Value.bool true))) none [0]]
def l47r7 : List AOper :=
  [AOper.mk (some 22) (AOp.mv (Operand.tmp 0)) none [],
                      AOper.mk (some 23) (AOp.mv (Operand.tmp 0)) none [],
                      AOper.mk (some 24)
                        (AOp.call 46 [Operand.tmp 23, Operand.const (Value.int IntKind.i64 12)]) none [1],
                      AOper.mk (some 25)
                        (AOp.bslice 1 [Value.int IntKind.i64 0]
                          [(0, Operand.const (Value.int IntKind.i64 4)),
                            (1, Operand.const (Value.int IntKind.i64 3)),
                            (2, Operand.const (Value.int IntKind.i64 (-1))),
                            (3, Operand.const (Value.int IntKind.i64 (-2))),
                            (4, Operand.const (Value.int IntKind.i64 0)), (5, Operand.tmp 24),
                            (6, Operand.const (Value.int IntKind.i64 30)),
                            (7, Operand.const (Value.int IntKind.i64 (-30)))]
                          8)
                        none [2],
                      AOper.mk (some 26) (AOp.call 45 [Operand.tmp 22, Operand.tmp 25]) none [0, 3, 2],
                      AOper.mk (some 27) (AOp.fld 1 (Operand.tmp 3)) none [0, 1, 2, 3, 4],
                      AOper.mk none (AOp.store 1 (Operand.tmp 27) (Operand.tmp 26)) none [5, 4, 4, 0, 1, 2, 3, 4]]
def l47r8 : List AOper :=
  [AOper.mk (some 28) (AOp.mv (Operand.tmp 0)) none [],
                    AOper.mk (some 29)
                      (AOp.call 46 [Operand.tmp 28, Operand.const (Value.int IntKind.i64 24)]) none [0]]
def l47r9 : List AOper :=
  [AOper.mk (some 31)
                          (AOp.bin BinOp.eql (Operand.tmp 29) (Operand.const (Value.int IntKind.i64 0)))
                          none [],
                        AOper.mk (some 30) (AOp.mv (Operand.tmp 31)) none [0]]
def l47r10 : List AOper :=
  [AOper.mk (some 32) (AOp.mv (Operand.tmp 0)) none [],
                          AOper.mk (some 33)
                            (AOp.bslice 1 [Value.int IntKind.i64 0]
                              [(0, Operand.const (Value.int IntKind.i64 0)),
                                (1, Operand.const (Value.int IntKind.i64 201))]
                              2)
                            none [],
                          AOper.mk (some 34) (AOp.call 45 [Operand.tmp 32, Operand.tmp 33]) none [0, 1],
                          AOper.mk (some 35) (AOp.fld 2 (Operand.tmp 3)) none [0, 1, 2],
                          AOper.mk none (AOp.store 1 (Operand.tmp 35) (Operand.tmp 34)) none [3, 2, 2, 0, 1, 2]]
def l47r11 : List AOper :=
  [AOper.mk (some 37)
                              (AOp.bin BinOp.eql (Operand.tmp 29) (Operand.const (Value.int IntKind.i64 1)))
                              none [],
                            AOper.mk (some 36) (AOp.mv (Operand.tmp 37)) none [0]]
def l47r12 : List AOper :=
  [AOper.mk (some 38) (AOp.fld 0 (Operand.tmp 3)) none [],
                              AOper.mk none
                                (AOp.store 1 (Operand.tmp 38) (Operand.const (Value.int IntKind.i64 101)))
                                none [0]]
def l47r13 : List AOper :=
  [AOper.mk (some 40)
                                  (AOp.bin BinOp.eql (Operand.tmp 29)
                                    (Operand.const (Value.int IntKind.i64 2)))
                                  none [],
                                AOper.mk (some 39) (AOp.mv (Operand.tmp 40)) none [0]]
def l47r14 : List AOper :=
  [AOper.mk (some 41) (AOp.mv (Operand.tmp 0)) none [],
                                  AOper.mk (some 42)
                                    (AOp.bslice 1 [Value.int IntKind.i64 0]
                                      [(0, Operand.const (Value.int IntKind.i64 1)),
                                        (1, Operand.const (Value.int IntKind.i64 (-101)))]
                                      2)
                                    none [],
                                  AOper.mk (some 43) (AOp.call 45 [Operand.tmp 41, Operand.tmp 42]) none [0, 1],
                                  AOper.mk (some 44) (AOp.fld 1 (Operand.tmp 3)) none [0, 1, 2],
                                  AOper.mk none (AOp.store 1 (Operand.tmp 44) (Operand.tmp 43)) none
                                    [3, 2, 2, 0, 1, 2]]
def l47r15 : List AOper :=
  [AOper.mk (some 45) (AOp.load true 5 (Operand.tmp 3)) none [],
                    AOper.mk none (AOp.store 5 (Operand.tmp 2) (Operand.tmp 45)) none [0, 0]]
def l47 : AFn :=
  (AFn.mk 46 1
    (ACode.seq
      (ACode.reg l47r0)
      (ACode.seq
        (ACode.reg l47r1)
        (ACode.seq
          (ACode.seq
            (ACode.reg l47r2)
            (ACode.cond (Operand.tmp 10)
              (ACode.seq
                (ACode.reg l47r3)
                (ACode.reg l47r4))
              ACode.skip))
          (ACode.seq
            (ACode.seq
              (ACode.reg l47r5)
              (ACode.cond (Operand.tmp 20)
                (ACode.seq
                  (ACode.reg l47r6)
                  (ACode.reg l47r7))
                ACode.skip))
            (ACode.seq
              (ACode.seq
                (ACode.reg l47r8)
                (ACode.block 0
                  (ACode.seq
                    (ACode.reg l47r9)
                    (ACode.cond (Operand.tmp 30)
                      (ACode.reg l47r10)
                      (ACode.seq
                        (ACode.reg l47r11)
                        (ACode.cond (Operand.tmp 36)
                          (ACode.reg l47r12)
                          (ACode.seq
                            (ACode.reg l47r13)
                            (ACode.cond (Operand.tmp 39)
                              (ACode.reg l47r14)
                              ACode.skip))))))))
              (ACode.seq
                (ACode.reg l47r15)
                ACode.ret))))))
    [ARes.cell 2 true 5])
theorem l47_eq : lowFn Try.prog 47 = some l47 := by kernel_rfl
def l51r0 : List AOper :=
  [AOper.mk (some 6) (AOp.mv (Operand.const (Value.bool false))) none []]
def l51r1 : List AOper :=
  [AOper.mk (some 7) (AOp.mv (Operand.tmp 1)) none [], AOper.mk (some 8) (AOp.mv (Operand.tmp 0)) none [],
            AOper.mk (some 9) (AOp.bin BinOp.leq (Operand.tmp 7) (Operand.tmp 8)) none [0, 1],
            AOper.mk (some 10) (AOp.mv (Operand.tmp 9)) none [2],
            AOper.mk (some 11) (AOp.mv (Operand.tmp 0)) (some (10, true)) [3],
            AOper.mk (some 12) (AOp.mv (Operand.tmp 2)) (some (10, true)) [3],
            AOper.mk (some 13) (AOp.bin BinOp.leq (Operand.tmp 11) (Operand.tmp 12)) (some (10, true)) [4, 5, 3],
            AOper.mk (some 14) (AOp.pick (Operand.tmp 10) (Operand.tmp 13) (Operand.const (Value.bool false))) none
              [3, 6],
            AOper.mk (some 6) (AOp.mv (Operand.tmp 14)) none [7, 3, 0, 1, 2, 3, 4, 5, 6, 7]]
def l51 : AFn :=
  (AFn.mk 15 3
    (ACode.seq (ACode.reg l51r0)
      (ACode.seq
        (ACode.reg l51r1)
        ACode.ret))
    [ARes.tmp 6])
theorem l51_eq : lowFn Try.prog 51 = some l51 := by kernel_rfl
def l52r0 : List AOper :=
  [AOper.mk (some 1) (AOp.box (Operand.tmp 0)) none [],
          AOper.mk (some 2) (AOp.mv (Operand.const (Value.bool false))) none []]
def l52r1 : List AOper :=
  [AOper.mk (some 3) (AOp.fld 0 (Operand.tmp 1)) none [],
            AOper.mk (some 4) (AOp.load false 1 (Operand.tmp 3)) none [0],
            AOper.mk (some 5)
              (AOp.call 51
                [Operand.tmp 4, Operand.const (Value.int IntKind.i64 (-100)),
                  Operand.const (Value.int IntKind.i64 100)])
              none [1],
            AOper.mk (some 6) (AOp.mv (Operand.tmp 5)) none [2, 2],
            AOper.mk (some 7) (AOp.fld 1 (Operand.tmp 1)) (some (6, true)) [3],
            AOper.mk (some 8) (AOp.load false 1 (Operand.tmp 7)) (some (6, true)) [4, 3],
            AOper.mk (some 9)
              (AOp.call 51
                [Operand.tmp 8, Operand.const (Value.int IntKind.i64 (-100)),
                  Operand.const (Value.int IntKind.i64 100)])
              (some (6, true)) [5, 3, 3],
            AOper.mk (some 10) (AOp.pick (Operand.tmp 6) (Operand.tmp 9) (Operand.const (Value.bool false))) none
              [3, 6],
            AOper.mk (some 11) (AOp.mv (Operand.tmp 10)) none [7, 6],
            AOper.mk (some 12) (AOp.fld 2 (Operand.tmp 1)) (some (11, true)) [8],
            AOper.mk (some 13) (AOp.load false 1 (Operand.tmp 12)) (some (11, true)) [9, 8],
            AOper.mk (some 14)
              (AOp.call 51
                [Operand.tmp 13, Operand.const (Value.int IntKind.i64 (-200)),
                  Operand.const (Value.int IntKind.i64 200)])
              (some (11, true)) [10, 8, 8],
            AOper.mk (some 15) (AOp.pick (Operand.tmp 11) (Operand.tmp 14) (Operand.const (Value.bool false))) none
              [8, 11],
            AOper.mk (some 16) (AOp.mv (Operand.tmp 15)) none [12, 11],
            AOper.mk (some 17) (AOp.fld 2 (Operand.tmp 1)) (some (16, true)) [13],
            AOper.mk (some 18) (AOp.load false 1 (Operand.tmp 17)) (some (16, true)) [14, 13],
            AOper.mk (some 19)
              (AOp.bin BinOp.neq (Operand.tmp 18) (Operand.const (Value.int IntKind.i64 0)))
              (some (16, true)) [15, 13],
            AOper.mk (some 20) (AOp.pick (Operand.tmp 16) (Operand.tmp 19) (Operand.const (Value.bool false))) none
              [13, 16],
            AOper.mk (some 21) (AOp.mv (Operand.tmp 20)) none [17, 13],
            AOper.mk (some 22) (AOp.fld 3 (Operand.tmp 1)) (some (21, true)) [18],
            AOper.mk (some 23) (AOp.load false 1 (Operand.tmp 22)) (some (21, true)) [19, 18],
            AOper.mk (some 24) (AOp.mv (Operand.tmp 23)) (some (21, true)) [20, 18, 18],
            AOper.mk (some 25) (AOp.fld 0 (Operand.tmp 1)) (some (24, false)) [21],
            AOper.mk (some 26) (AOp.load false 1 (Operand.tmp 25)) (some (24, false)) [22, 21],
            AOper.mk (some 27)
              (AOp.bin BinOp.eql (Operand.tmp 26) (Operand.const (Value.int IntKind.i64 0)))
              (some (24, false)) [23, 21],
            AOper.mk (some 28) (AOp.pick (Operand.tmp 24) (Operand.const (Value.bool true)) (Operand.tmp 27))
              (some (21, true)) [21, 24, 18],
            AOper.mk (some 29) (AOp.pick (Operand.tmp 21) (Operand.tmp 28) (Operand.const (Value.bool false))) none
              [18, 25],
            AOper.mk (some 30) (AOp.mv (Operand.tmp 29)) none [26, 21],
            AOper.mk (some 31) (AOp.fld 4 (Operand.tmp 1)) (some (30, true)) [27],
            AOper.mk (some 32) (AOp.load false 1 (Operand.tmp 31)) (some (30, true)) [28, 27],
            AOper.mk (some 33) (AOp.mv (Operand.tmp 32)) (some (30, true)) [29, 27, 27],
            AOper.mk (some 34) (AOp.fld 1 (Operand.tmp 1)) (some (33, false)) [30],
            AOper.mk (some 35) (AOp.load false 1 (Operand.tmp 34)) (some (33, false)) [31, 30],
            AOper.mk (some 36)
              (AOp.bin BinOp.eql (Operand.tmp 35) (Operand.const (Value.int IntKind.i64 0)))
              (some (33, false)) [32, 30],
            AOper.mk (some 37) (AOp.pick (Operand.tmp 33) (Operand.const (Value.bool true)) (Operand.tmp 36))
              (some (30, true)) [30, 33, 27],
            AOper.mk (some 38) (AOp.pick (Operand.tmp 30) (Operand.tmp 37) (Operand.const (Value.bool false))) none
              [27, 34],
            AOper.mk (some 2) (AOp.mv (Operand.tmp 38)) none
              [35, 30, 0, 1, 2, 3, 4, 5, 6, 7, 8, 9, 10, 11, 12, 13, 14, 15, 16, 17, 18, 19, 20, 21, 22, 23, 24, 25, 26,
                27, 28, 29, 30, 31, 32, 33, 34, 35]]
def l52 : AFn :=
  (AFn.mk 39 1
    (ACode.seq
      (ACode.reg l52r0)
      (ACode.seq
        (ACode.reg l52r1)
        ACode.ret))
    [ARes.tmp 2])
theorem l52_eq : lowFn Try.prog 52 = some l52 := by kernel_rfl
def l53r0 : List AOper :=
  [AOper.mk (some 3) (AOp.box (Operand.tmp 1)) none [],
          AOper.mk (some 4) (AOp.mv (Operand.const (Value.slice none 0 0))) none []]
def l53r1 : List AOper :=
  [AOper.mk (some 5) (AOp.mv (Operand.const (Value.int IntKind.i64 0))) none []]
def l53r2 : List AOper :=
  [AOper.mk (some 7) (AOp.mv (Operand.tmp 0)) none [],
              AOper.mk (some 6) (AOp.mv (Operand.tmp 7)) none [0, 0]]
def l53r3 : List AOper :=
  [AOper.mk (some 8) (AOp.fld 2 (Operand.tmp 3)) none [],
                  AOper.mk (some 9) (AOp.load false 1 (Operand.tmp 8)) none [0],
                  AOper.mk (some 10)
                    (AOp.bin BinOp.lss (Operand.tmp 9) (Operand.const (Value.int IntKind.i64 0))) none [1]]
def l53r4 : List AOper :=
  [AOper.mk (some 11) (AOp.mv (Operand.tmp 0)) none [],
                      AOper.mk (some 12)
                        (AOp.bin BinOp.sub (Operand.tmp 11) (Operand.const (Value.int IntKind.i64 1))) none
                        [0],
                      AOper.mk (some 5) (AOp.mv (Operand.tmp 12)) none [1, 0, 1]]
def l53r5 : List AOper :=
  [AOper.mk (some 6) (AOp.mv (Operand.const (Value.int IntKind.i64 (-1)))) none []]
def l53r6 : List AOper :=
  [AOper.mk (some 13) (AOp.fld 3 (Operand.tmp 3)) none [],
                    AOper.mk (some 14) (AOp.load false 1 (Operand.tmp 13)) none [0]]
def l53r7 : List AOper :=
  [AOper.mk (some 15) (AOp.mv (Operand.tmp 0)) none [],
                      AOper.mk (some 16) (AOp.fld 0 (Operand.tmp 3)) none [],
                      AOper.mk (some 17) (AOp.load false 1 (Operand.tmp 16)) none [1],
                      AOper.mk (some 18) (AOp.fld 2 (Operand.tmp 3)) none [],
                      AOper.mk (some 19) (AOp.load false 1 (Operand.tmp 18)) none [3],
                      AOper.mk (some 20) (AOp.call 73 [Operand.tmp 15, Operand.tmp 17, Operand.tmp 19]) none [0, 2, 4],
                      AOper.mk (some 5) (AOp.mv (Operand.tmp 20)) none [5, 5, 0, 1, 2, 3, 4, 5]]
def l53r8 : List AOper :=
  [AOper.mk (some 21) (AOp.fld 4 (Operand.tmp 3)) none [],
                      AOper.mk (some 22) (AOp.load false 1 (Operand.tmp 21)) none [0]]
def l53r9 : List AOper :=
  [AOper.mk (some 23) (AOp.mv (Operand.tmp 0)) none [],
                        AOper.mk (some 24) (AOp.fld 1 (Operand.tmp 3)) none [],
                        AOper.mk (some 25) (AOp.load false 1 (Operand.tmp 24)) none [1],
                        AOper.mk (some 26) (AOp.fld 2 (Operand.tmp 3)) none [],
                        AOper.mk (some 27) (AOp.load false 1 (Operand.tmp 26)) none [3],
                        AOper.mk (some 28) (AOp.call 73 [Operand.tmp 23, Operand.tmp 25, Operand.tmp 27]) none
                          [0, 2, 4],
                        AOper.mk (some 6) (AOp.mv (Operand.tmp 28)) none [5, 5, 0, 1, 2, 3, 4, 5]]
def l53r10 : List AOper :=
  [AOper.mk (some 29) (AOp.mv (Operand.tmp 5)) none [],
                      AOper.mk (some 30) (AOp.mv (Operand.tmp 6)) none [],
                      AOper.mk (some 31) (AOp.fld 2 (Operand.tmp 3)) none [],
                      AOper.mk (some 32) (AOp.load false 1 (Operand.tmp 31)) none [2],
                      AOper.mk (some 33)
                        (AOp.build
                          [Value.int IntKind.i64 0, Value.int IntKind.i64 0,
                            Value.int IntKind.i64 0]
                          [(0, 1, Operand.tmp 29), (1, 1, Operand.tmp 30), (2, 1, Operand.tmp 32)])
                        none [0, 1, 3],
                      AOper.mk (some 34) (AOp.call 60 [Operand.tmp 33]) none [4],
                      AOper.mk (some 4) (AOp.mv (Operand.tmp 34)) none [5, 5, 0, 1, 2, 3, 4, 5]]
def l53 : AFn :=
  (AFn.mk 35 2
    (ACode.seq
      (ACode.reg l53r0)
      (ACode.seq (ACode.reg l53r1)
        (ACode.seq
          (ACode.reg l53r2)
          (ACode.seq
            (ACode.seq
              (ACode.reg l53r3)
              (ACode.cond (Operand.tmp 10)
                (ACode.seq
                  (ACode.reg l53r4)
                  (ACode.reg l53r5))
                ACode.skip))
            (ACode.seq
              (ACode.seq
                (ACode.reg l53r6)
                (ACode.cond (Operand.tmp 14)
                  (ACode.reg l53r7)
                  ACode.skip))
              (ACode.seq
                (ACode.seq
                  (ACode.reg l53r8)
                  (ACode.cond (Operand.tmp 22)
                    (ACode.reg l53r9)
                    ACode.skip))
                (ACode.seq
                  (ACode.reg l53r10)
                  ACode.ret)))))))
    [ARes.tmp 4])
theorem l53_eq : lowFn Try.prog 53 = some l53 := by kernel_rfl
def l55r0 : List AOper :=
  [AOper.mk (some 2) (AOp.mv (Operand.const (Value.bool false))) none []]
def l55r1 : List AOper :=
  [AOper.mk (some 3) (AOp.mv (Operand.tmp 0)) none [],
            AOper.mk (some 4) (AOp.call 69 [Operand.tmp 3, Operand.const (Value.int IntKind.i64 200)]) none
              [0],
            AOper.mk (some 5) (AOp.mv (Operand.tmp 4)) none [1, 1],
            AOper.mk (some 6) (AOp.mv (Operand.tmp 0)) (some (5, true)) [2],
            AOper.mk (some 7) (AOp.bin BinOp.neq (Operand.tmp 6) (Operand.const (Value.int IntKind.i64 0)))
              (some (5, true)) [3, 2],
            AOper.mk (some 8) (AOp.pick (Operand.tmp 5) (Operand.tmp 7) (Operand.const (Value.bool false))) none [2, 4],
            AOper.mk (some 2) (AOp.mv (Operand.tmp 8)) none [5, 2, 0, 1, 2, 3, 4, 5]]
def l55 : AFn :=
  (AFn.mk 9 1
    (ACode.seq (ACode.reg l55r0)
      (ACode.seq
        (ACode.reg l55r1)
        ACode.ret))
    [ARes.tmp 2])
theorem l55_eq : lowFn Try.prog 55 = some l55 := by kernel_rfl
def l56r0 : List AOper :=
  [AOper.mk (some 2)
            (AOp.alloc
              [Value.int IntKind.i64 0, Value.int IntKind.i64 0,
                Value.int IntKind.i64 0])
            none []]
def l56r1 : List AOper :=
  [AOper.mk (some 4) (AOp.mv (Operand.tmp 0)) none [], AOper.mk (some 5) (AOp.mv (Operand.tmp 0)) none [],
            AOper.mk (some 6) (AOp.call 46 [Operand.tmp 5, Operand.const (Value.int IntKind.i64 40)]) none
              [1],
            AOper.mk (some 7) (AOp.bin BinOp.sub (Operand.tmp 6) (Operand.const (Value.int IntKind.i64 20)))
              none [2],
            AOper.mk (some 8)
              (AOp.bslice 1 [Value.int IntKind.i64 0]
                [(0, Operand.const (Value.int IntKind.i64 0)),
                  (1, Operand.const (Value.int IntKind.i64 1)),
                  (2, Operand.const (Value.int IntKind.i64 (-3))),
                  (3, Operand.const (Value.int IntKind.i64 5)), (4, Operand.tmp 7)]
                5)
              none [3],
            AOper.mk (some 9) (AOp.call 45 [Operand.tmp 4, Operand.tmp 8]) none [0, 4, 2],
            AOper.mk (some 10) (AOp.mv (Operand.tmp 0)) none [], AOper.mk (some 11) (AOp.mv (Operand.tmp 0)) none [],
            AOper.mk (some 12) (AOp.call 46 [Operand.tmp 11, Operand.const (Value.int IntKind.i64 60)]) none
              [7, 5],
            AOper.mk (some 13)
              (AOp.bin BinOp.sub (Operand.tmp 12) (Operand.const (Value.int IntKind.i64 30))) none [8],
            AOper.mk (some 14)
              (AOp.bslice 1 [Value.int IntKind.i64 0]
                [(0, Operand.const (Value.int IntKind.i64 10)),
                  (1, Operand.const (Value.int IntKind.i64 7)),
                  (2, Operand.const (Value.int IntKind.i64 20)),
                  (3, Operand.const (Value.int IntKind.i64 (-8))), (4, Operand.tmp 13)]
                5)
              none [9],
            AOper.mk (some 15) (AOp.call 45 [Operand.tmp 10, Operand.tmp 14]) none [6, 10, 8],
            AOper.mk (some 16) (AOp.mv (Operand.tmp 0)) none [],
            AOper.mk (some 17)
              (AOp.bslice 1 [Value.int IntKind.i64 0]
                [(0, Operand.const (Value.int IntKind.i64 1)),
                  (1, Operand.const (Value.int IntKind.i64 2)),
                  (2, Operand.const (Value.int IntKind.i64 3)),
                  (3, Operand.const (Value.int IntKind.i64 (-1))),
                  (4, Operand.const (Value.int IntKind.i64 (-2))),
                  (5, Operand.const (Value.int IntKind.i64 4)),
                  (6, Operand.const (Value.int IntKind.i64 (-5))),
                  (7, Operand.const (Value.int IntKind.i64 6)),
                  (8, Operand.const (Value.int IntKind.i64 9))]
                9)
              none [],
            AOper.mk (some 18) (AOp.call 45 [Operand.tmp 16, Operand.tmp 17]) none [12, 13, 11],
            AOper.mk (some 19)
              (AOp.build
                [Value.int IntKind.i64 0, Value.int IntKind.i64 0,
                  Value.int IntKind.i64 0]
                [(0, 1, Operand.tmp 9), (1, 1, Operand.tmp 15), (2, 1, Operand.tmp 18)])
              none [5, 11, 14],
            AOper.mk (some 3)
              (AOp.alloc
                [Value.int IntKind.i64 0, Value.int IntKind.i64 0,
                  Value.int IntKind.i64 0])
              none [],
            AOper.mk none (AOp.store 3 (Operand.tmp 3) (Operand.tmp 19)) none
              [16, 15, 14, 0, 1, 2, 3, 4, 5, 6, 7, 8, 9, 10, 11, 12, 13, 14, 15, 16]]
def l56r2 : List AOper :=
  [AOper.mk (some 20) (AOp.fld 2 (Operand.tmp 3)) none [],
                AOper.mk (some 21) (AOp.load false 1 (Operand.tmp 20)) none [0],
                AOper.mk (some 22)
                  (AOp.bin BinOp.lss (Operand.tmp 21) (Operand.const (Value.int IntKind.i64 0))) none [1],
                AOper.mk (some 23) (AOp.mv (Operand.tmp 22)) none [2],
                AOper.mk (some 24) (AOp.mv (Operand.tmp 0)) (some (23, true)) [3],
                AOper.mk (some 25) (AOp.call 46 [Operand.tmp 24, Operand.const (Value.int IntKind.i64 3)])
                  (some (23, true)) [4, 3, 3],
                AOper.mk (some 26)
                  (AOp.bin BinOp.gtr (Operand.tmp 25) (Operand.const (Value.int IntKind.i64 0)))
                  (some (23, true)) [5, 3],
                AOper.mk (some 27) (AOp.pick (Operand.tmp 23) (Operand.tmp 26) (Operand.const (Value.bool false))) none
                  [3, 6]]
def l56r3 : List AOper :=
  [AOper.mk (some 28) (AOp.fld 1 (Operand.tmp 3)) none [],
                  AOper.mk (some 29) (AOp.load false 1 (Operand.tmp 28)) none [0],
                  AOper.mk (some 30) (AOp.fld 0 (Operand.tmp 3)) none [],
                  AOper.mk (some 31) (AOp.load false 1 (Operand.tmp 30)) none [2],
                  AOper.mk (some 32) (AOp.fld 2 (Operand.tmp 3)) none [],
                  AOper.mk (some 33) (AOp.load false 1 (Operand.tmp 32)) none [4],
                  AOper.mk (some 34)
                    (AOp.build
                      [Value.int IntKind.i64 0, Value.int IntKind.i64 0,
                        Value.int IntKind.i64 0]
                      [(0, 1, Operand.tmp 29), (1, 1, Operand.tmp 31), (2, 1, Operand.tmp 33)])
                    none [1, 3, 5],
                  AOper.mk none (AOp.store 3 (Operand.tmp 3) (Operand.tmp 34)) none [6, 0, 1, 2, 3, 4, 5, 6]]
def l56r4 : List AOper :=
  [AOper.mk (some 35) (AOp.mv (Operand.tmp 0)) none [],
                  AOper.mk (some 36)
                    (AOp.call 46 [Operand.tmp 35, Operand.const (Value.int IntKind.i64 24)]) none [0]]
def l56r5 : List AOper :=
  [AOper.mk (some 38)
                        (AOp.bin BinOp.eql (Operand.tmp 36) (Operand.const (Value.int IntKind.i64 0))) none
                        [],
                      AOper.mk (some 37) (AOp.mv (Operand.tmp 38)) none [0]]
def l56r6 : List AOper :=
  [AOper.mk (some 39) (AOp.mv (Operand.tmp 0)) none [],
                        AOper.mk (some 40)
                          (AOp.bslice 1 [Value.int IntKind.i64 0]
                            [(0, Operand.const (Value.int IntKind.i64 0)),
                              (1, Operand.const (Value.int IntKind.i64 201)),
                              (2, Operand.const (Value.int IntKind.i64 (-201)))]
                            3)
                          none [],
                        AOper.mk (some 41) (AOp.call 45 [Operand.tmp 39, Operand.tmp 40]) none [0, 1],
                        AOper.mk (some 42) (AOp.fld 2 (Operand.tmp 3)) none [0, 1, 2],
                        AOper.mk none (AOp.store 1 (Operand.tmp 42) (Operand.tmp 41)) none [3, 2, 2, 0, 1, 2]]
def l56r7 : List AOper :=
  [AOper.mk (some 44)
                            (AOp.bin BinOp.eql (Operand.tmp 36) (Operand.const (Value.int IntKind.i64 1)))
                            none [],
                          AOper.mk (some 43) (AOp.mv (Operand.tmp 44)) none [0]]
def l56r8 : List AOper :=
  [AOper.mk (some 45) (AOp.mv (Operand.tmp 0)) none [],
                            AOper.mk (some 46)
                              (AOp.bslice 1 [Value.int IntKind.i64 0]
                                [(0, Operand.const (Value.int IntKind.i64 101)),
                                  (1, Operand.const (Value.int IntKind.i64 (-101))),
                                  (2, Operand.const (Value.int IntKind.i64 100))]
                                3)
                              none [],
                            AOper.mk (some 47) (AOp.call 45 [Operand.tmp 45, Operand.tmp 46]) none [0, 1],
                            AOper.mk (some 48) (AOp.fld 0 (Operand.tmp 3)) none [0, 1, 2],
                            AOper.mk none (AOp.store 1 (Operand.tmp 48) (Operand.tmp 47)) none [3, 2, 2, 0, 1, 2]]
def l56r9 : List AOper :=
  [AOper.mk (some 50)
                                (AOp.bin BinOp.eql (Operand.tmp 36)
                                  (Operand.const (Value.int IntKind.i64 2)))
                                none [],
                              AOper.mk (some 49) (AOp.mv (Operand.tmp 50)) none [0]]
def l56r10 : List AOper :=
  [AOper.mk (some 51) (AOp.mv (Operand.tmp 0)) none [],
                                AOper.mk (some 52)
                                  (AOp.bslice 1 [Value.int IntKind.i64 0]
                                    [(0, Operand.const (Value.int IntKind.i64 102)),
                                      (1, Operand.const (Value.int IntKind.i64 (-102))),
                                      (2, Operand.const (Value.int IntKind.i64 101))]
                                    3)
                                  none [],
                                AOper.mk (some 53) (AOp.call 45 [Operand.tmp 51, Operand.tmp 52]) none [0, 1],
                                AOper.mk (some 54) (AOp.fld 1 (Operand.tmp 3)) none [0, 1, 2],
                                AOper.mk none (AOp.store 1 (Operand.tmp 54) (Operand.tmp 53)) none [3, 2, 2, 0, 1, 2]]
def l56r11 : List AOper :=
  [AOper.mk (some 55) (AOp.load true 3 (Operand.tmp 3)) none [],
                  AOper.mk none (AOp.store 3 (Operand.tmp 2) (Operand.tmp 55)) none [0, 0]]
def l56 : AFn :=
  (AFn.mk 56 1
    (ACode.seq
      (ACode.reg l56r0)
      (ACode.seq
        (ACode.reg l56r1)
        (ACode.seq
          (ACode.seq
            (ACode.reg l56r2)
            (ACode.cond (Operand.tmp 27)
              (ACode.reg l56r3)
              ACode.skip))
          (ACode.seq
            (ACode.seq
              (ACode.reg l56r4)
              (ACode.block 0
                (ACode.seq
                  (ACode.reg l56r5)
                  (ACode.cond (Operand.tmp 37)
                    (ACode.reg l56r6)
                    (ACode.seq
                      (ACode.reg l56r7)
                      (ACode.cond (Operand.tmp 43)
                        (ACode.reg l56r8)
                        (ACode.seq
                          (ACode.reg l56r9)
                          (ACode.cond (Operand.tmp 49)
                            (ACode.reg l56r10)
                            ACode.skip))))))))
            (ACode.seq
              (ACode.reg l56r11)
              ACode.ret)))))
    [ARes.cell 2 true 3])
theorem l56_eq : lowFn Try.prog 56 = some l56 := by kernel_rfl
def l57r0 : List AOper :=
  [AOper.mk (some 1) (AOp.box (Operand.tmp 0)) none [],
          AOper.mk (some 2) (AOp.mv (Operand.const (Value.int IntKind.i64 0))) none []]
def l57r1a : List AOper :=
  [AOper.mk (some 5) (AOp.fld 1 (Operand.tmp 1)) none [], AOper.mk (some 6) (AOp.load false 1 (Operand.tmp 5)) none [0], AOper.mk (some 7) (AOp.fld 0 (Operand.tmp 1)) none [], AOper.mk (some 8) (AOp.load false 1 (Operand.tmp 7)) none [2], AOper.mk (some 9) (AOp.bin BinOp.sub (Operand.tmp 6) (Operand.tmp 8)) none [1, 3], AOper.mk (some 10) (AOp.fld 2 (Operand.tmp 1)) none [], AOper.mk (some 11) (AOp.load false 1 (Operand.tmp 10)) none [5], AOper.mk (some 3) (AOp.mv (Operand.tmp 9)) none [4, 0, 1, 2, 3, 4]]
def l57r1b : List AOper :=
  [AOper.mk (some 4) (AOp.mv (Operand.tmp 11)) none [6, 7, 0, 1, 2, 3, 4, 5, 6, 7]]
def l57r1 : List AOper := l57r1a ++ l57r1b
def l57r2 : List AOper :=
  [AOper.mk (some 12) (AOp.mv (Operand.tmp 4)) none [],
                AOper.mk (some 13)
                  (AOp.bin BinOp.lss (Operand.tmp 12) (Operand.const (Value.int IntKind.i64 0))) none [0]]
def l57r3 : List AOper :=
  [AOper.mk (some 14) (AOp.mv (Operand.tmp 3)) none [],
                  AOper.mk (some 15) (AOp.un UnOp.neg (Operand.tmp 14)) none [0],
                  AOper.mk (some 16) (AOp.mv (Operand.tmp 4)) none [],
                  AOper.mk (some 17) (AOp.un UnOp.neg (Operand.tmp 16)) none [2],
                  AOper.mk (some 3) (AOp.mv (Operand.tmp 15)) none [1, 0, 1],
                  AOper.mk (some 4) (AOp.mv (Operand.tmp 17)) none [3, 4, 0, 1, 2, 3, 4]]
def l57r4 : List AOper :=
  [AOper.mk (some 18) (AOp.mv (Operand.tmp 3)) none [],
                  AOper.mk (some 19)
                    (AOp.bin BinOp.leq (Operand.tmp 18) (Operand.const (Value.int IntKind.i64 0))) none
                    [0]]
def l57r5 : List AOper :=
  [AOper.mk (some 2) (AOp.mv (Operand.const (Value.int IntKind.i64 0))) none []]
def l57r6 : List AOper :=
  [AOper.mk (some 20) (AOp.mv (Operand.tmp 3)) none [],
                  AOper.mk (some 21) (AOp.mv (Operand.tmp 4)) none [],
                  AOper.mk (some 22) (AOp.bin BinOp.add (Operand.tmp 20) (Operand.tmp 21)) none [0, 1],
                  AOper.mk (some 23)
                    (AOp.bin BinOp.sub (Operand.tmp 22) (Operand.const (Value.int IntKind.i64 1))) none [2],
                  AOper.mk (some 24) (AOp.mv (Operand.tmp 4)) none [],
                  AOper.mk (some 25) (AOp.bin BinOp.quo (Operand.tmp 23) (Operand.tmp 24)) none [3, 4],
                  AOper.mk (some 2) (AOp.mv (Operand.tmp 25)) none [5, 0, 1, 2, 3, 4, 5]]
def l57 : AFn :=
  (AFn.mk 26 1
    (ACode.seq
      (ACode.reg l57r0)
      (ACode.seq
        (ACode.draw l57r1)
        (ACode.seq
          (ACode.seq
            (ACode.reg l57r2)
            (ACode.cond (Operand.tmp 13)
              (ACode.reg l57r3)
              ACode.skip))
          (ACode.seq
            (ACode.seq
              (ACode.reg l57r4)
              (ACode.cond (Operand.tmp 19)
                (ACode.seq
                  (ACode.reg l57r5)
                  ACode.ret)
                ACode.skip))
            (ACode.seq
              (ACode.reg l57r6)
              ACode.ret)))))
    [ARes.tmp 2])
theorem l57_eq : lowFn Try.prog 57 = some l57 := by kernel_rfl
def l59r0 : List AOper :=
  [AOper.mk (some 1) (AOp.box (Operand.tmp 0)) none [],
          AOper.mk (some 2) (AOp.mv (Operand.const (Value.bool false))) none []]
def l59r1 : List AOper :=
  [AOper.mk (some 3) (AOp.fld 0 (Operand.tmp 1)) none [],
            AOper.mk (some 4) (AOp.load false 1 (Operand.tmp 3)) none [0],
            AOper.mk (some 5)
              (AOp.call 51
                [Operand.tmp 4, Operand.const (Value.int IntKind.i64 (-100)),
                  Operand.const (Value.int IntKind.i64 100)])
              none [1],
            AOper.mk (some 6) (AOp.mv (Operand.tmp 5)) none [2, 2],
            AOper.mk (some 7) (AOp.fld 1 (Operand.tmp 1)) (some (6, true)) [3],
            AOper.mk (some 8) (AOp.load false 1 (Operand.tmp 7)) (some (6, true)) [4, 3],
            AOper.mk (some 9)
              (AOp.call 51
                [Operand.tmp 8, Operand.const (Value.int IntKind.i64 (-101)),
                  Operand.const (Value.int IntKind.i64 101)])
              (some (6, true)) [5, 3, 3],
            AOper.mk (some 10) (AOp.pick (Operand.tmp 6) (Operand.tmp 9) (Operand.const (Value.bool false))) none
              [3, 6],
            AOper.mk (some 11) (AOp.mv (Operand.tmp 10)) none [7, 6],
            AOper.mk (some 12) (AOp.fld 2 (Operand.tmp 1)) (some (11, true)) [8],
            AOper.mk (some 13) (AOp.load false 1 (Operand.tmp 12)) (some (11, true)) [9, 8],
            AOper.mk (some 14)
              (AOp.call 51
                [Operand.tmp 13, Operand.const (Value.int IntKind.i64 (-200)),
                  Operand.const (Value.int IntKind.i64 200)])
              (some (11, true)) [10, 8, 8],
            AOper.mk (some 15) (AOp.pick (Operand.tmp 11) (Operand.tmp 14) (Operand.const (Value.bool false))) none
              [8, 11],
            AOper.mk (some 16) (AOp.mv (Operand.tmp 15)) none [12, 11],
            AOper.mk (some 17) (AOp.fld 2 (Operand.tmp 1)) (some (16, true)) [13],
            AOper.mk (some 18) (AOp.load false 1 (Operand.tmp 17)) (some (16, true)) [14, 13],
            AOper.mk (some 19)
              (AOp.bin BinOp.neq (Operand.tmp 18) (Operand.const (Value.int IntKind.i64 0)))
              (some (16, true)) [15, 13],
            AOper.mk (some 20) (AOp.pick (Operand.tmp 16) (Operand.tmp 19) (Operand.const (Value.bool false))) none
              [13, 16],
            AOper.mk (some 2) (AOp.mv (Operand.tmp 20)) none
              [17, 13, 0, 1, 2, 3, 4, 5, 6, 7, 8, 9, 10, 11, 12, 13, 14, 15, 16, 17]]
def l59 : AFn :=
  (AFn.mk 21 1
    (ACode.seq
      (ACode.reg l59r0)
      (ACode.seq
        (ACode.reg l59r1)
        ACode.ret))
    [ARes.tmp 2])
theorem l59_eq : lowFn Try.prog 59 = some l59 := by kernel_rfl
def l60r0 : List AOper :=
  [AOper.mk (some 1) (AOp.box (Operand.tmp 0)) none [],
          AOper.mk (some 2) (AOp.mv (Operand.const (Value.slice none 0 0))) none []]
def l60r1 : List AOper :=
  [AOper.mk (some 5) (AOp.bslice 1 [Value.int IntKind.i64 0] [] 0) none [],
            AOper.mk (some 3) (AOp.mv (Operand.tmp 5)) none [0, 0]]
def l60r2 : List AOper :=
  [AOper.mk (some 6) (AOp.fld 0 (Operand.tmp 1)) none [],
                AOper.mk (some 7) (AOp.load false 1 (Operand.tmp 6)) none [0],
                AOper.mk (some 4) (AOp.mv (Operand.tmp 7)) none [1, 0, 1]]
def l60r3 : List AOper :=
  [AOper.mk (some 8) (AOp.fld 2 (Operand.tmp 1)) none [],
                        AOper.mk (some 9) (AOp.load false 1 (Operand.tmp 8)) none [0],
                        AOper.mk (some 10)
                          (AOp.bin BinOp.gtr (Operand.tmp 9) (Operand.const (Value.int IntKind.i64 0))) none
                          [1],
                        AOper.mk (some 11) (AOp.mv (Operand.tmp 10)) none [2],
                        AOper.mk (some 12) (AOp.mv (Operand.tmp 4)) (some (11, true)) [3],
                        AOper.mk (some 13) (AOp.fld 1 (Operand.tmp 1)) (some (11, true)) [3],
                        AOper.mk (some 14) (AOp.load false 1 (Operand.tmp 13)) (some (11, true)) [5, 3],
                        AOper.mk (some 15) (AOp.bin BinOp.lss (Operand.tmp 12) (Operand.tmp 14)) (some (11, true))
                          [4, 6, 3],
                        AOper.mk (some 16)
                          (AOp.pick (Operand.tmp 11) (Operand.tmp 15) (Operand.const (Value.bool false))) none [3, 7],
                        AOper.mk (some 17) (AOp.mv (Operand.tmp 16)) none [8, 3],
                        AOper.mk (some 18) (AOp.fld 2 (Operand.tmp 1)) (some (17, false)) [9],
                        AOper.mk (some 19) (AOp.load false 1 (Operand.tmp 18)) (some (17, false)) [10, 9],
                        AOper.mk (some 20)
                          (AOp.bin BinOp.lss (Operand.tmp 19) (Operand.const (Value.int IntKind.i64 0)))
                          (some (17, false)) [11, 9],
                        AOper.mk (some 21) (AOp.mv (Operand.tmp 20)) (some (17, false)) [12, 9, 9],
                        AOper.mk (some 22) (AOp.mv (Operand.tmp 4)) (some (21, true)) [13],
                        AOper.mk (some 23) (AOp.fld 1 (Operand.tmp 1)) (some (21, true)) [13],
                        AOper.mk (some 24) (AOp.load false 1 (Operand.tmp 23)) (some (21, true)) [15, 13],
                        AOper.mk (some 25) (AOp.bin BinOp.gtr (Operand.tmp 22) (Operand.tmp 24)) (some (21, true))
                          [14, 16, 13],
                        AOper.mk (some 26)
                          (AOp.pick (Operand.tmp 21) (Operand.tmp 25) (Operand.const (Value.bool false)))
                          (some (17, false)) [13, 17, 9],
                        AOper.mk (some 27)
                          (AOp.pick (Operand.tmp 17) (Operand.const (Value.bool true)) (Operand.tmp 26)) none [9, 18]]
def l60r4 : List AOper :=
  [AOper.mk (some 32) (AOp.mv (Operand.tmp 3)) none [],
                          AOper.mk (some 33) (AOp.mv (Operand.tmp 4)) none [],
                          AOper.mk (some 34)
                            (AOp.bslice 1 [Value.int IntKind.i64 0] [(0, Operand.tmp 33)] 1) none [1],
                          AOper.mk (some 35) (AOp.append 1 (Operand.tmp 32) (Operand.tmp 34)) none [0, 2],
                          AOper.mk (some 3) (AOp.mv (Operand.tmp 35)) none [3, 3, 0, 1, 2, 3]]
def l60r5 : List AOper :=
  [AOper.mk (some 28) (AOp.mv (Operand.tmp 4)) none [],
                        AOper.mk (some 29) (AOp.fld 2 (Operand.tmp 1)) none [],
                        AOper.mk (some 30) (AOp.load false 1 (Operand.tmp 29)) none [1],
                        AOper.mk (some 31) (AOp.bin BinOp.add (Operand.tmp 28) (Operand.tmp 30)) none [0, 2],
                        AOper.mk (some 4) (AOp.mv (Operand.tmp 31)) none [3, 0, 1, 2, 3]]
def l60r6 : List AOper :=
  [AOper.mk (some 36) (AOp.mv (Operand.tmp 3)) none [],
                AOper.mk (some 2) (AOp.mv (Operand.tmp 36)) none [0, 0]]
def l60 : AFn :=
  (AFn.mk 37 1
    (ACode.seq
      (ACode.reg l60r0)
      (ACode.seq
        (ACode.reg l60r1)
        (ACode.seq
          (ACode.seq
            (ACode.reg l60r2)
            (ACode.block 0
              (ACode.loop
                (ACode.seq
                  (ACode.seq
                    (ACode.reg l60r3)
                    (ACode.cond (Operand.tmp 27) ACode.skip (ACode.exit 0)))
                  (ACode.seq
                    (ACode.block 1
                      (ACode.reg l60r4))
                    (ACode.reg l60r5))))))
          (ACode.seq
            (ACode.reg l60r6)
            ACode.ret))))
    [ARes.tmp 2])
theorem l60_eq : lowFn Try.prog 60 = some l60 := by kernel_rfl
def l61r0 : List AOper :=
  [AOper.mk (some 2)
            (AOp.alloc
              [Value.int IntKind.i64 0, Value.int IntKind.i64 0,
                Value.int IntKind.i64 0])
            none []]
def l61r1 : List AOper :=
  [AOper.mk (some 5) (AOp.mv (Operand.tmp 0)) none [], AOper.mk (some 6) (AOp.len (Operand.tmp 5)) none [0]]
def l61r2 : List AOper :=
  [AOper.mk (some 8)
                    (AOp.bin BinOp.eql (Operand.tmp 6) (Operand.const (Value.int IntKind.i64 0))) none [],
                  AOper.mk (some 7) (AOp.mv (Operand.tmp 8)) none [0]]
def l61r3 : List AOper :=
  [AOper.mk (some 9)
                        (AOp.build
                          [Value.int IntKind.i64 0, Value.int IntKind.i64 0,
                            Value.int IntKind.i64 0]
                          [(0, 1, Operand.const (Value.int IntKind.i64 0)),
                            (1, 1, Operand.const (Value.int IntKind.i64 0)),
                            (2, 1, Operand.const (Value.int IntKind.i64 1))])
                        none [],
                      AOper.mk none (AOp.store 3 (Operand.tmp 2) (Operand.tmp 9)) none [0, 0]]
def l61r4 : List AOper :=
  [AOper.mk (some 11)
                        (AOp.bin BinOp.eql (Operand.tmp 6) (Operand.const (Value.int IntKind.i64 1))) none
                        [],
                      AOper.mk (some 10) (AOp.mv (Operand.tmp 11)) none [0]]
def l61r5a : List AOper :=
  [AOper.mk (some 12) (AOp.mv (Operand.tmp 0)) none [], AOper.mk (some 13)
                            (AOp.idxA 1 (Operand.tmp 12) (Operand.const (Value.int IntKind.i64 0))) none
                            [0], AOper.mk (some 14) (AOp.load false 1 (Operand.tmp 13)) none [1], AOper.mk (some 15) (AOp.mv (Operand.tmp 0)) none [], AOper.mk (some 16)
                            (AOp.idxA 1 (Operand.tmp 15) (Operand.const (Value.int IntKind.i64 0))) none
                            [3], AOper.mk (some 17) (AOp.load false 1 (Operand.tmp 16)) none [4], AOper.mk (some 18)
                            (AOp.bin BinOp.add (Operand.tmp 17) (Operand.const (Value.int IntKind.i64 1)))
                            none [5]]
def l61r5b : List AOper :=
  [AOper.mk (some 19)
                            (AOp.build
                              [Value.int IntKind.i64 0, Value.int IntKind.i64 0,
                                Value.int IntKind.i64 0]
                              [(0, 1, Operand.tmp 14), (1, 1, Operand.tmp 18),
                                (2, 1, Operand.const (Value.int IntKind.i64 1))])
                            none [2, 6], AOper.mk none (AOp.store 3 (Operand.tmp 2) (Operand.tmp 19)) none
                            [7, 0, 1, 2, 3, 4, 5, 6, 7]]
def l61r5 : List AOper := l61r5a ++ l61r5b
def l61r6a : List AOper :=
  [AOper.mk (some 20) (AOp.mv (Operand.tmp 0)) none [], AOper.mk (some 21) (AOp.idxA 1 (Operand.tmp 20) (Operand.const (Value.int IntKind.i64 1)))
                none [0], AOper.mk (some 22) (AOp.load false 1 (Operand.tmp 21)) none [1], AOper.mk (some 23) (AOp.mv (Operand.tmp 0)) none [], AOper.mk (some 24) (AOp.idxA 1 (Operand.tmp 23) (Operand.const (Value.int IntKind.i64 0)))
                none [3], AOper.mk (some 25) (AOp.load false 1 (Operand.tmp 24)) none [4]]
def l61r6b : List AOper :=
  [AOper.mk (some 26) (AOp.bin BinOp.sub (Operand.tmp 22) (Operand.tmp 25)) none [2, 5], AOper.mk (some 3) (AOp.mv (Operand.tmp 26)) none [6, 0, 1, 2, 3, 4, 5, 6]]
def l61r6 : List AOper := l61r6a ++ l61r6b
def l61r7 : List AOper :=
  [AOper.mk (some 27) (AOp.mv (Operand.tmp 0)) none [], AOper.mk (some 28) (AOp.mv (Operand.tmp 0)) none [],
                AOper.mk (some 29) (AOp.len (Operand.tmp 28)) none [1],
                AOper.mk (some 30)
                  (AOp.bin BinOp.sub (Operand.tmp 29) (Operand.const (Value.int IntKind.i64 1))) none [2],
                AOper.mk (some 31) (AOp.idxA 1 (Operand.tmp 27) (Operand.tmp 30)) none [0, 3],
                AOper.mk (some 32) (AOp.load false 1 (Operand.tmp 31)) none [4],
                AOper.mk (some 33)
                  (AOp.bin BinOp.add (Operand.tmp 32) (Operand.const (Value.int IntKind.i64 1))) none [5],
                AOper.mk (some 4) (AOp.mv (Operand.tmp 33)) none [6, 0, 1, 2, 3, 4, 5, 6]]
def l61r8 : List AOper :=
  [AOper.mk (some 34) (AOp.mv (Operand.tmp 3)) none [],
                    AOper.mk (some 35)
                      (AOp.bin BinOp.lss (Operand.tmp 34) (Operand.const (Value.int IntKind.i64 0))) none
                      [0]]
def l61r9 : List AOper :=
  [AOper.mk (some 36) (AOp.mv (Operand.tmp 0)) none [],
                      AOper.mk (some 37) (AOp.mv (Operand.tmp 0)) none [],
                      AOper.mk (some 38) (AOp.len (Operand.tmp 37)) none [1],
                      AOper.mk (some 39)
                        (AOp.bin BinOp.sub (Operand.tmp 38) (Operand.const (Value.int IntKind.i64 1))) none
                        [2],
                      AOper.mk (some 40) (AOp.idxA 1 (Operand.tmp 36) (Operand.tmp 39)) none [0, 3],
                      AOper.mk (some 41) (AOp.load false 1 (Operand.tmp 40)) none [4],
                      AOper.mk (some 42)
                        (AOp.bin BinOp.sub (Operand.tmp 41) (Operand.const (Value.int IntKind.i64 1))) none
                        [5],
                      AOper.mk (some 4) (AOp.mv (Operand.tmp 42)) none [6, 0, 1, 2, 3, 4, 5, 6]]
def l61r10 : List AOper :=
  [AOper.mk (some 43) (AOp.mv (Operand.tmp 0)) none [],
                    AOper.mk (some 44)
                      (AOp.idxA 1 (Operand.tmp 43) (Operand.const (Value.int IntKind.i64 0))) none [0],
                    AOper.mk (some 45) (AOp.load false 1 (Operand.tmp 44)) none [1],
                    AOper.mk (some 46) (AOp.mv (Operand.tmp 4)) none [],
                    AOper.mk (some 47) (AOp.mv (Operand.tmp 3)) none [],
                    AOper.mk (some 48)
                      (AOp.build
                        [Value.int IntKind.i64 0, Value.int IntKind.i64 0,
                          Value.int IntKind.i64 0]
                        [(0, 1, Operand.tmp 45), (1, 1, Operand.tmp 46), (2, 1, Operand.tmp 47)])
                      none [2, 3, 4],
                    AOper.mk none (AOp.store 3 (Operand.tmp 2) (Operand.tmp 48)) none [5, 0, 1, 2, 3, 4, 5]]
def l61 : AFn :=
  (AFn.mk 49 1
    (ACode.seq
      (ACode.reg l61r0)
      (ACode.seq
        (ACode.seq
          (ACode.reg l61r1)
          (ACode.block 0
            (ACode.seq
              (ACode.reg l61r2)
              (ACode.cond (Operand.tmp 7)
                (ACode.seq
                  (ACode.reg l61r3)
                  ACode.ret)
                (ACode.seq
                  (ACode.reg l61r4)
                  (ACode.cond (Operand.tmp 10)
                    (ACode.seq
                      (ACode.draw l61r5)
                      ACode.ret)
                    ACode.skip))))))
        (ACode.seq
          (ACode.draw l61r6)
          (ACode.seq
            (ACode.reg l61r7)
            (ACode.seq
              (ACode.seq
                (ACode.reg l61r8)
                (ACode.cond (Operand.tmp 35)
                  (ACode.reg l61r9)
                  ACode.skip))
              (ACode.seq
                (ACode.reg l61r10)
                ACode.ret))))))
    [ARes.cell 2 true 3])
theorem l61_eq : lowFn Try.prog 61 = some l61 := by kernel_rfl
def l62r0 : List AOper :=
  [AOper.mk (some 1) (AOp.box (Operand.tmp 0)) none [],
          AOper.mk (some 2)
            (AOp.alloc
              [Value.int IntKind.i64 0, Value.int IntKind.i64 0,
                Value.int IntKind.i64 0])
            none []]
def l62r1 : List AOper :=
  [AOper.mk (some 3) (AOp.fld 2 (Operand.tmp 1)) none [],
              AOper.mk (some 4) (AOp.load false 1 (Operand.tmp 3)) none [0],
              AOper.mk (some 5)
                (AOp.bin BinOp.lss (Operand.tmp 4) (Operand.const (Value.int IntKind.i64 0))) none [1]]
def l62r2 : List AOper :=
  [AOper.mk (some 6) (AOp.load true 3 (Operand.tmp 1)) none [],
                  AOper.mk (some 7) (AOp.call 71 [Operand.tmp 6]) none [0],
                  AOper.mk none (AOp.store 3 (Operand.tmp 2) (Operand.tmp 7)) none [1, 1, 0, 1]]
def l62r3 : List AOper :=
  [AOper.mk (some 8) (AOp.load true 3 (Operand.tmp 1)) none [],
              AOper.mk (some 9) (AOp.call 63 [Operand.tmp 8]) none [0],
              AOper.mk none (AOp.store 3 (Operand.tmp 2) (Operand.tmp 9)) none [1, 1, 0, 1]]
def l62 : AFn :=
  (AFn.mk 10 1
    (ACode.seq
      (ACode.reg l62r0)
      (ACode.seq
        (ACode.seq
          (ACode.reg l62r1)
          (ACode.cond (Operand.tmp 5)
            (ACode.seq
              (ACode.reg l62r2)
              ACode.ret)
            ACode.skip))
        (ACode.seq
          (ACode.reg l62r3)
          ACode.ret)))
    [ARes.cell 2 true 3])
theorem l62_eq : lowFn Try.prog 62 = some l62 := by kernel_rfl
def l63r0 : List AOper :=
  [AOper.mk (some 1) (AOp.box (Operand.tmp 0)) none [],
          AOper.mk (some 2)
            (AOp.alloc
              [Value.int IntKind.i64 0, Value.int IntKind.i64 0,
                Value.int IntKind.i64 0])
            none []]
def l63r1a : List AOper :=
  [AOper.mk (some 3) (AOp.fld 0 (Operand.tmp 1)) none [], AOper.mk (some 4) (AOp.load false 1 (Operand.tmp 3)) none [0], AOper.mk (some 5) (AOp.fld 2 (Operand.tmp 1)) none [], AOper.mk (some 6) (AOp.load false 1 (Operand.tmp 5)) none [2], AOper.mk (some 7) (AOp.load true 3 (Operand.tmp 1)) none [], AOper.mk (some 8) (AOp.call 57 [Operand.tmp 7]) none [4]]
def l63r1b : List AOper :=
  [AOper.mk (some 9) (AOp.call 74 [Operand.tmp 4, Operand.tmp 6, Operand.tmp 8]) none [1, 3, 5, 5], AOper.mk none (AOp.store 3 (Operand.tmp 2) (Operand.tmp 9)) none [6, 6, 0, 1, 2, 3, 4, 5, 6]]
def l63r1 : List AOper := l63r1a ++ l63r1b
def l63 : AFn :=
  (AFn.mk 10 1
    (ACode.seq
      (ACode.reg l63r0)
      (ACode.seq
        (ACode.draw l63r1)
        ACode.ret))
    [ARes.cell 2 true 3])
theorem l63_eq : lowFn Try.prog 63 = some l63 := by kernel_rfl
def l65r0 : List AOper :=
  [AOper.mk (some 2) (AOp.box (Operand.tmp 0)) none [], AOper.mk (some 3) (AOp.box (Operand.tmp 1)) none [],
          AOper.mk (some 4)
            (AOp.alloc
              [Value.int IntKind.i64 0, Value.int IntKind.i64 0,
                Value.int IntKind.i64 0])
            none []]
def l65r1 : List AOper :=
  [AOper.mk (some 9) (AOp.load true 3 (Operand.tmp 2)) none [],
              AOper.mk (some 10) (AOp.call 57 [Operand.tmp 9]) none [0],
              AOper.mk (some 11) (AOp.mv (Operand.const (Value.int IntKind.i64 0))) none []]
def l65r2 : List AOper :=
  [AOper.mk (some 12) (AOp.bin BinOp.lss (Operand.tmp 11) (Operand.tmp 10)) none []]
def l65r3 : List AOper :=
  [AOper.mk (some 13) (AOp.mv (Operand.tmp 11)) none [],
                            AOper.mk (some 5) (AOp.mv (Operand.tmp 13)) none [0, 0]]
def l65r4 : List AOper :=
  [AOper.mk (some 14) (AOp.load true 3 (Operand.tmp 2)) none [],
                              AOper.mk (some 15) (AOp.mv (Operand.tmp 5)) none [],
                              AOper.mk (some 16) (AOp.call 70 [Operand.tmp 14, Operand.tmp 15]) none [0, 1],
                              AOper.mk (some 6) (AOp.mv (Operand.tmp 16)) none [2, 2, 0, 1, 2]]
def l65r5 : List AOper :=
  [AOper.mk (some 17) (AOp.load true 3 (Operand.tmp 3)) none [],
                                  AOper.mk (some 18) (AOp.mv (Operand.tmp 6)) none [],
                                  AOper.mk (some 19) (AOp.call 68 [Operand.tmp 17, Operand.tmp 18]) none [0, 1],
                                  AOper.mk (some 20)
                                    (AOp.bin BinOp.lss (Operand.tmp 19)
                                      (Operand.const (Value.int IntKind.i64 0)))
                                    none [2]]
def l65r6 : List AOper :=
  [AOper.mk (some 21) (AOp.fld 2 (Operand.tmp 2)) none [],
                                  AOper.mk (some 22) (AOp.load false 1 (Operand.tmp 21)) none [0],
                                  AOper.mk (some 23) (AOp.fld 2 (Operand.tmp 3)) none [],
                                  AOper.mk (some 24) (AOp.load false 1 (Operand.tmp 23)) none [2],
                                  AOper.mk (some 25) (AOp.call 75 [Operand.tmp 22, Operand.tmp 24]) none [1, 3],
                                  AOper.mk (some 7) (AOp.mv (Operand.tmp 25)) none [4, 4, 0, 1, 2, 3, 4]]
def l65r7 : List AOper :=
  [AOper.mk (some 26) (AOp.fld 1 (Operand.tmp 2)) none [],
                                    AOper.mk (some 27) (AOp.load false 1 (Operand.tmp 26)) none [0],
                                    AOper.mk (some 28) (AOp.fld 1 (Operand.tmp 3)) none [],
                                    AOper.mk (some 29) (AOp.load false 1 (Operand.tmp 28)) none [2],
                                    AOper.mk (some 30) (AOp.minmax false (Operand.tmp 27) (Operand.tmp 29)) none [1, 3],
                                    AOper.mk (some 31)
                                      (AOp.bin BinOp.sub (Operand.tmp 30)
                                        (Operand.const (Value.int IntKind.i64 1)))
                                      none [4],
                                    AOper.mk (some 32) (AOp.mv (Operand.tmp 6)) none [],
                                    AOper.mk (some 33) (AOp.bin BinOp.sub (Operand.tmp 31) (Operand.tmp 32)) none
                                      [5, 6],
                                    AOper.mk (some 8) (AOp.mv (Operand.tmp 33)) none [7, 0, 1, 2, 3, 4, 5, 6, 7]]
def l65r8 : List AOper :=
  [AOper.mk (some 34) (AOp.mv (Operand.tmp 6)) none [],
                                      AOper.mk (some 35) (AOp.mv (Operand.tmp 7)) none [],
                                      AOper.mk (some 36) (AOp.mv (Operand.tmp 8)) none [],
                                      AOper.mk (some 37) (AOp.mv (Operand.tmp 7)) none [],
                                      AOper.mk (some 38) (AOp.bin BinOp.quo (Operand.tmp 36) (Operand.tmp 37)) none
                                        [2, 3],
                                      AOper.mk (some 39)
                                        (AOp.bin BinOp.add (Operand.tmp 38)
                                          (Operand.const (Value.int IntKind.i64 1)))
                                        none [4],
                                      AOper.mk (some 40) (AOp.call 74 [Operand.tmp 34, Operand.tmp 35, Operand.tmp 39])
                                        none [0, 1, 5],
                                      AOper.mk none (AOp.store 3 (Operand.tmp 4) (Operand.tmp 40)) none
                                        [6, 6, 0, 1, 2, 3, 4, 5, 6]]
def l65r9 : List AOper :=
  [AOper.mk (some 41)
                          (AOp.bin BinOp.add (Operand.tmp 11) (Operand.const (Value.int IntKind.i64 1)))
                          none [],
                        AOper.mk (some 11) (AOp.mv (Operand.tmp 41)) none [0]]
def l65r10 : List AOper :=
  [AOper.mk (some 42)
                (AOp.call 74
                  [Operand.const (Value.int IntKind.i64 0),
                    Operand.const (Value.int IntKind.i64 1),
                    Operand.const (Value.int IntKind.i64 0)])
                none [],
              AOper.mk none (AOp.store 3 (Operand.tmp 4) (Operand.tmp 42)) none [0, 0, 0]]
def l65 : AFn :=
  (AFn.mk 43 2
    (ACode.seq
      (ACode.reg l65r0)
      (ACode.seq
        (ACode.seq
          (ACode.reg l65r1)
          (ACode.block 0
            (ACode.loop
              (ACode.seq (ACode.reg l65r2)
                (ACode.seq (ACode.cond (Operand.tmp 12) ACode.skip (ACode.exit 0))
                  (ACode.seq
                    (ACode.block 1
                      (ACode.seq
                        (ACode.reg l65r3)
                        (ACode.seq
                          (ACode.reg l65r4)
                          (ACode.seq
                            (ACode.seq
                              (ACode.reg l65r5)
                              (ACode.cond (Operand.tmp 20) (ACode.exit 1) ACode.skip))
                            (ACode.seq
                              (ACode.reg l65r6)
                              (ACode.seq
                                (ACode.reg l65r7)
                                (ACode.seq
                                  (ACode.reg l65r8)
                                  ACode.ret)))))))
                    (ACode.reg l65r9)))))))
        (ACode.seq
          (ACode.reg l65r10)
          ACode.ret)))
    [ARes.cell 4 true 3])
theorem l65_eq : lowFn Try.prog 65 = some l65 := by kernel_rfl
def l66r0 : List AOper :=
  [AOper.mk (some 4) (AOp.mv (Operand.const (Value.slice none 0 0))) none []]
def l66r1 : List AOper :=
  [AOper.mk (some 7) (AOp.bslice 1 [Value.int IntKind.i64 0] [] 0) none [],
            AOper.mk (some 5) (AOp.mv (Operand.tmp 7)) none [0, 0]]
def l66r2 : List AOper :=
  [AOper.mk (some 6) (AOp.mv (Operand.const (Value.int IntKind.i64 0))) none []]
def l66r3 : List AOper :=
  [AOper.mk (some 8) (AOp.mv (Operand.tmp 6)) none [],
                        AOper.mk (some 9) (AOp.mv (Operand.tmp 0)) none [],
                        AOper.mk (some 10) (AOp.len (Operand.tmp 9)) none [1],
                        AOper.mk (some 11) (AOp.bin BinOp.lss (Operand.tmp 8) (Operand.tmp 10)) none [0, 2]]
def l66r4 : List AOper :=
  [AOper.mk (some 14) (AOp.mv (Operand.tmp 1)) none [],
                            AOper.mk (some 15) (AOp.mv (Operand.tmp 0)) none [],
                            AOper.mk (some 16) (AOp.mv (Operand.tmp 6)) none [],
                            AOper.mk (some 17) (AOp.idxA 1 (Operand.tmp 15) (Operand.tmp 16)) none [1, 2],
                            AOper.mk (some 18) (AOp.load false 1 (Operand.tmp 17)) none [3],
                            AOper.mk (some 19) (AOp.call 76 [Operand.tmp 14, Operand.tmp 18]) none [0, 4],
                            AOper.mk (some 20)
                              (AOp.bin BinOp.geq (Operand.tmp 19) (Operand.const (Value.int IntKind.i64 0)))
                              none [5]]
def l66r5 : List AOper :=
  [AOper.mk (some 21) (AOp.mv (Operand.tmp 5)) none [],
                              AOper.mk (some 22) (AOp.mv (Operand.tmp 0)) none [],
                              AOper.mk (some 23) (AOp.mv (Operand.tmp 6)) none [],
                              AOper.mk (some 24) (AOp.idxA 1 (Operand.tmp 22) (Operand.tmp 23)) none [1, 2],
                              AOper.mk (some 25) (AOp.load false 1 (Operand.tmp 24)) none [3],
                              AOper.mk (some 26)
                                (AOp.bslice 1 [Value.int IntKind.i64 0] [(0, Operand.tmp 25)] 1) none [4],
                              AOper.mk (some 27) (AOp.append 1 (Operand.tmp 21) (Operand.tmp 26)) none [0, 5],
                              AOper.mk (some 5) (AOp.mv (Operand.tmp 27)) none [6, 6, 0, 1, 2, 3, 4, 5, 6]]
def l66r6 : List AOper :=
  [AOper.mk (some 12) (AOp.mv (Operand.tmp 6)) none [],
                        AOper.mk (some 13)
                          (AOp.bin BinOp.add (Operand.tmp 12) (Operand.const (Value.int IntKind.i64 1)))
                          none [0],
                        AOper.mk (some 6) (AOp.mv (Operand.tmp 13)) none [1, 0, 1]]
def l66r7 : List AOper :=
  [AOper.mk (some 28) (AOp.mv (Operand.tmp 5)) none [],
                AOper.mk (some 4) (AOp.mv (Operand.tmp 28)) none [0, 0]]
def l66 : AFn :=
  (AFn.mk 29 2
    (ACode.seq (ACode.reg l66r0)
      (ACode.seq
        (ACode.reg l66r1)
        (ACode.seq
          (ACode.seq
            (ACode.reg l66r2)
            (ACode.block 0
              (ACode.loop
                (ACode.seq
                  (ACode.seq
                    (ACode.reg l66r3)
                    (ACode.cond (Operand.tmp 11) ACode.skip (ACode.exit 0)))
                  (ACode.seq
                    (ACode.block 1
                      (ACode.seq
                        (ACode.reg l66r4)
                        (ACode.cond (Operand.tmp 20)
                          (ACode.reg l66r5)
                          ACode.skip)))
                    (ACode.reg l66r6))))))
          (ACode.seq
            (ACode.reg l66r7)
            ACode.ret))))
    [ARes.tmp 4])
theorem l66_eq : lowFn Try.prog 66 = some l66 := by kernel_rfl
def l68r0 : List AOper :=
  [AOper.mk (some 2) (AOp.box (Operand.tmp 0)) none [],
          AOper.mk (some 4) (AOp.mv (Operand.const (Value.int IntKind.i64 0))) none []]
def l68r1 : List AOper :=
  [AOper.mk (some 6) (AOp.mv (Operand.tmp 1)) none [],
              AOper.mk (some 7) (AOp.call 69 [Operand.tmp 6, Operand.const (Value.int IntKind.i64 100)])
                none [0],
              AOper.mk (some 8) (AOp.un UnOp.not (Operand.tmp 7)) none [1],
              AOper.mk (some 9) (AOp.mv (Operand.tmp 8)) none [2, 1],
              AOper.mk (some 10) (AOp.mv (Operand.tmp 1)) (some (9, false)) [3],
              AOper.mk (some 11) (AOp.fld 0 (Operand.tmp 2)) (some (9, false)) [3],
              AOper.mk (some 12) (AOp.load false 1 (Operand.tmp 11)) (some (9, false)) [5, 3],
              AOper.mk (some 13) (AOp.bin BinOp.sub (Operand.tmp 10) (Operand.tmp 12)) (some (9, false)) [4, 6, 3],
              AOper.mk (some 14) (AOp.fld 2 (Operand.tmp 2)) (some (9, false)) [3],
              AOper.mk (some 15) (AOp.load false 1 (Operand.tmp 14)) (some (9, false)) [8, 3],
              AOper.mk (some 16) (AOp.bin BinOp.rem (Operand.tmp 13) (Operand.tmp 15)) (some (9, false)) [7, 9, 3],
              AOper.mk (some 17)
                (AOp.bin BinOp.neq (Operand.tmp 16) (Operand.const (Value.int IntKind.i64 0)))
                (some (9, false)) [10, 3],
              AOper.mk (some 18) (AOp.pick (Operand.tmp 9) (Operand.const (Value.bool true)) (Operand.tmp 17)) none
                [3, 11]]
def l68r2 : List AOper :=
  [AOper.mk (some 4) (AOp.mv (Operand.const (Value.int IntKind.i64 (-1)))) none []]
def l68r3 : List AOper :=
  [AOper.mk (some 19) (AOp.mv (Operand.tmp 1)) none [],
              AOper.mk (some 20) (AOp.fld 0 (Operand.tmp 2)) none [],
              AOper.mk (some 21) (AOp.load false 1 (Operand.tmp 20)) none [1],
              AOper.mk (some 22) (AOp.bin BinOp.sub (Operand.tmp 19) (Operand.tmp 21)) none [0, 2],
              AOper.mk (some 23) (AOp.fld 2 (Operand.tmp 2)) none [],
              AOper.mk (some 24) (AOp.load false 1 (Operand.tmp 23)) none [4],
              AOper.mk (some 25) (AOp.bin BinOp.quo (Operand.tmp 22) (Operand.tmp 24)) none [3, 5],
              AOper.mk (some 5) (AOp.mv (Operand.tmp 25)) none [6, 0, 1, 2, 3, 4, 5, 6]]
def l68r4 : List AOper :=
  [AOper.mk (some 26) (AOp.mv (Operand.tmp 5)) none [],
                  AOper.mk (some 27)
                    (AOp.bin BinOp.lss (Operand.tmp 26) (Operand.const (Value.int IntKind.i64 0))) none [0],
                  AOper.mk (some 28) (AOp.mv (Operand.tmp 27)) none [1],
                  AOper.mk (some 29) (AOp.mv (Operand.tmp 5)) (some (28, false)) [2],
                  AOper.mk (some 30) (AOp.load true 3 (Operand.tmp 2)) (some (28, false)) [2],
                  AOper.mk (some 31) (AOp.call 57 [Operand.tmp 30]) (some (28, false)) [4, 2, 2],
                  AOper.mk (some 32) (AOp.bin BinOp.geq (Operand.tmp 29) (Operand.tmp 31)) (some (28, false)) [3, 5, 2],
                  AOper.mk (some 33) (AOp.pick (Operand.tmp 28) (Operand.const (Value.bool true)) (Operand.tmp 32)) none
                    [2, 6]]
def l68r5 : List AOper :=
  [AOper.mk (some 4) (AOp.mv (Operand.const (Value.int IntKind.i64 (-1)))) none []]
def l68r6 : List AOper :=
  [AOper.mk (some 34) (AOp.mv (Operand.tmp 5)) none [],
                  AOper.mk (some 4) (AOp.mv (Operand.tmp 34)) none [0, 0]]
def l68 : AFn :=
  (AFn.mk 35 2
    (ACode.seq
      (ACode.reg l68r0)
      (ACode.seq
        (ACode.seq
          (ACode.reg l68r1)
          (ACode.cond (Operand.tmp 18)
            (ACode.seq
              (ACode.reg l68r2)
              ACode.ret)
            ACode.skip))
        (ACode.seq
          (ACode.reg l68r3)
          (ACode.seq
            (ACode.seq
              (ACode.reg l68r4)
              (ACode.cond (Operand.tmp 33)
                (ACode.seq
                  (ACode.reg l68r5)
                  ACode.ret)
                ACode.skip))
            (ACode.seq
              (ACode.reg l68r6)
              ACode.ret)))))
    [ARes.tmp 4])
theorem l68_eq : lowFn Try.prog 68 = some l68 := by kernel_rfl
def l69r0 : List AOper :=
  [AOper.mk (some 4) (AOp.mv (Operand.const (Value.bool false))) none []]
def l69r1 : List AOper :=
  [AOper.mk (some 5) (AOp.mv (Operand.tmp 1)) none [],
            AOper.mk (some 6) (AOp.un UnOp.neg (Operand.tmp 5)) none [0],
            AOper.mk (some 7) (AOp.mv (Operand.tmp 0)) none [],
            AOper.mk (some 8) (AOp.bin BinOp.leq (Operand.tmp 6) (Operand.tmp 7)) none [1, 2],
            AOper.mk (some 9) (AOp.mv (Operand.tmp 8)) none [3],
            AOper.mk (some 10) (AOp.mv (Operand.tmp 0)) (some (9, true)) [4],
            AOper.mk (some 11) (AOp.mv (Operand.tmp 1)) (some (9, true)) [4],
            AOper.mk (some 12) (AOp.bin BinOp.leq (Operand.tmp 10) (Operand.tmp 11)) (some (9, true)) [5, 6, 4],
            AOper.mk (some 13) (AOp.pick (Operand.tmp 9) (Operand.tmp 12) (Operand.const (Value.bool false))) none
              [4, 7],
            AOper.mk (some 4) (AOp.mv (Operand.tmp 13)) none [8, 4, 0, 1, 2, 3, 4, 5, 6, 7, 8]]
def l69 : AFn :=
  (AFn.mk 14 2
    (ACode.seq (ACode.reg l69r0)
      (ACode.seq
        (ACode.reg l69r1)
        ACode.ret))
    [ARes.tmp 4])
theorem l69_eq : lowFn Try.prog 69 = some l69 := by kernel_rfl
def l70r0 : List AOper :=
  [AOper.mk (some 2) (AOp.box (Operand.tmp 0)) none [],
          AOper.mk (some 4) (AOp.mv (Operand.const (Value.int IntKind.i64 0))) none []]
def l70r1 : List AOper :=
  [AOper.mk (some 5) (AOp.fld 0 (Operand.tmp 2)) none [],
            AOper.mk (some 6) (AOp.load false 1 (Operand.tmp 5)) none [0],
            AOper.mk (some 7) (AOp.mv (Operand.tmp 1)) none [], AOper.mk (some 8) (AOp.fld 2 (Operand.tmp 2)) none [],
            AOper.mk (some 9) (AOp.load false 1 (Operand.tmp 8)) none [3],
            AOper.mk (some 10) (AOp.bin BinOp.mul (Operand.tmp 7) (Operand.tmp 9)) none [2, 4],
            AOper.mk (some 11) (AOp.bin BinOp.add (Operand.tmp 6) (Operand.tmp 10)) none [1, 5],
            AOper.mk (some 4) (AOp.mv (Operand.tmp 11)) none [6, 0, 1, 2, 3, 4, 5, 6]]
def l70 : AFn :=
  (AFn.mk 12 2
    (ACode.seq
      (ACode.reg l70r0)
      (ACode.seq
        (ACode.reg l70r1)
        ACode.ret))
    [ARes.tmp 4])
theorem l70_eq : lowFn Try.prog 70 = some l70 := by kernel_rfl
def l71r0 : List AOper :=
  [AOper.mk (some 1) (AOp.box (Operand.tmp 0)) none [],
          AOper.mk (some 2)
            (AOp.alloc
              [Value.int IntKind.i64 0, Value.int IntKind.i64 0,
                Value.int IntKind.i64 0])
            none []]
def l71r1 : List AOper :=
  [AOper.mk (some 4) (AOp.load true 3 (Operand.tmp 1)) none [],
            AOper.mk (some 5) (AOp.call 57 [Operand.tmp 4]) none [0],
            AOper.mk (some 3) (AOp.mv (Operand.tmp 5)) none [1, 1, 0, 1]]
def l71r2a : List AOper :=
  [AOper.mk (some 6) (AOp.load true 3 (Operand.tmp 1)) none [], AOper.mk (some 7) (AOp.mv (Operand.tmp 3)) none [], AOper.mk (some 8)
                (AOp.bin BinOp.sub (Operand.tmp 7) (Operand.const (Value.int IntKind.i64 1))) none [1], AOper.mk (some 9) (AOp.call 70 [Operand.tmp 6, Operand.tmp 8]) none [0, 2], AOper.mk (some 10) (AOp.fld 2 (Operand.tmp 1)) none [], AOper.mk (some 11) (AOp.load false 1 (Operand.tmp 10)) none [4], AOper.mk (some 12) (AOp.un UnOp.neg (Operand.tmp 11)) none [5], AOper.mk (some 13) (AOp.mv (Operand.tmp 3)) none []]
def l71r2b : List AOper :=
  [AOper.mk (some 14) (AOp.call 74 [Operand.tmp 9, Operand.tmp 12, Operand.tmp 13]) none [3, 6, 7, 3], AOper.mk none (AOp.store 3 (Operand.tmp 2) (Operand.tmp 14)) none [8, 8, 0, 1, 2, 3, 4, 5, 6, 7, 8]]
def l71r2 : List AOper := l71r2a ++ l71r2b
def l71 : AFn :=
  (AFn.mk 15 1
    (ACode.seq
      (ACode.reg l71r0)
      (ACode.seq
        (ACode.reg l71r1)
        (ACode.seq
          (ACode.draw l71r2)
          ACode.ret)))
    [ARes.cell 2 true 3])
theorem l71_eq : lowFn Try.prog 71 = some l71 := by kernel_rfl
def l73r0 : List AOper :=
  [AOper.mk (some 6) (AOp.mv (Operand.const (Value.int IntKind.i64 0))) none []]
def l73r1 : List AOper :=
  [AOper.mk (some 7) (AOp.mv (Operand.const (Value.int IntKind.i64 0))) none []]
def l73r2 : List AOper :=
  [AOper.mk (some 9) (AOp.mv (Operand.tmp 0)) none [],
              AOper.mk (some 8) (AOp.mv (Operand.tmp 9)) none [0, 0]]
def l73r3 : List AOper :=
  [AOper.mk (some 10) (AOp.mv (Operand.tmp 2)) none [],
                  AOper.mk (some 11)
                    (AOp.bin BinOp.lss (Operand.tmp 10) (Operand.const (Value.int IntKind.i64 0))) none
                    [0]]
def l73r4 : List AOper :=
  [AOper.mk (some 7) (AOp.mv (Operand.const (Value.int IntKind.i64 (-1)))) none []]
def l73r5 : List AOper :=
  [AOper.mk (some 12) (AOp.mv (Operand.tmp 0)) none [],
                      AOper.mk (some 13)
                        (AOp.bin BinOp.sub (Operand.tmp 12) (Operand.const (Value.int IntKind.i64 1))) none
                        [0],
                      AOper.mk (some 8) (AOp.mv (Operand.tmp 13)) none [1, 0, 1]]
def l73r6 : List AOper :=
  [AOper.mk (some 14) (AOp.mv (Operand.tmp 1)) none [],
                    AOper.mk (some 15)
                      (AOp.bin BinOp.lss (Operand.tmp 14) (Operand.const (Value.int IntKind.i64 0))) none
                      [0]]
def l73r7 : List AOper :=
  [AOper.mk (some 16) (AOp.mv (Operand.tmp 1)) none [],
                      AOper.mk (some 17) (AOp.mv (Operand.tmp 0)) none [],
                      AOper.mk (some 18) (AOp.bin BinOp.add (Operand.tmp 16) (Operand.tmp 17)) none [0, 1],
                      AOper.mk (some 1) (AOp.mv (Operand.tmp 18)) none [2, 0, 1, 2]]
def l73r8 : List AOper :=
  [AOper.mk (some 19) (AOp.mv (Operand.tmp 8)) none [],
                    AOper.mk (some 20) (AOp.mv (Operand.tmp 7)) none [],
                    AOper.mk (some 21) (AOp.mv (Operand.tmp 1)) none [],
                    AOper.mk (some 22) (AOp.minmax true (Operand.tmp 20) (Operand.tmp 21)) none [1, 2],
                    AOper.mk (some 23) (AOp.minmax false (Operand.tmp 19) (Operand.tmp 22)) none [0, 3],
                    AOper.mk (some 6) (AOp.mv (Operand.tmp 23)) none [4, 0, 1, 2, 3, 4]]
def l73 : AFn :=
  (AFn.mk 24 3
    (ACode.seq (ACode.reg l73r0)
      (ACode.seq (ACode.reg l73r1)
        (ACode.seq
          (ACode.reg l73r2)
          (ACode.seq
            (ACode.seq
              (ACode.reg l73r3)
              (ACode.cond (Operand.tmp 11)
                (ACode.seq
                  (ACode.reg l73r4)
                  (ACode.reg l73r5))
                ACode.skip))
            (ACode.seq
              (ACode.seq
                (ACode.reg l73r6)
                (ACode.cond (Operand.tmp 15)
                  (ACode.reg l73r7)
                  ACode.skip))
              (ACode.seq
                (ACode.reg l73r8)
                ACode.ret))))))
    [ARes.tmp 6])
theorem l73_eq : lowFn Try.prog 73 = some l73 := by kernel_rfl
def l74r0 : List AOper :=
  [AOper.mk (some 6)
            (AOp.alloc
              [Value.int IntKind.i64 0, Value.int IntKind.i64 0,
                Value.int IntKind.i64 0])
            none []]
def l74r1 : List AOper :=
  [AOper.mk (some 8) (AOp.mv (Operand.tmp 2)) none [],
              AOper.mk (some 9)
                (AOp.bin BinOp.lss (Operand.tmp 8) (Operand.const (Value.int IntKind.i64 1))) none [0]]
def l74r2 : List AOper :=
  [AOper.mk (some 10)
                    (AOp.build
                      [Value.int IntKind.i64 0, Value.int IntKind.i64 0,
                        Value.int IntKind.i64 0]
                      [(0, 1, Operand.const (Value.int IntKind.i64 0)),
                        (1, 1, Operand.const (Value.int IntKind.i64 0)),
                        (2, 1, Operand.const (Value.int IntKind.i64 1))])
                    none [],
                  AOper.mk none (AOp.store 3 (Operand.tmp 6) (Operand.tmp 10)) none [0, 0]]
def l74r3 : List AOper :=
  [AOper.mk (some 11) (AOp.mv (Operand.tmp 2)) none [],
                AOper.mk (some 12)
                  (AOp.bin BinOp.eql (Operand.tmp 11) (Operand.const (Value.int IntKind.i64 1))) none [0]]
def l74r4 : List AOper :=
  [AOper.mk (some 13) (AOp.mv (Operand.tmp 0)) none [],
                    AOper.mk (some 14) (AOp.mv (Operand.tmp 0)) none [],
                    AOper.mk (some 15)
                      (AOp.bin BinOp.add (Operand.tmp 14) (Operand.const (Value.int IntKind.i64 1))) none
                      [1],
                    AOper.mk (some 16)
                      (AOp.build
                        [Value.int IntKind.i64 0, Value.int IntKind.i64 0,
                          Value.int IntKind.i64 0]
                        [(0, 1, Operand.tmp 13), (1, 1, Operand.tmp 15),
                          (2, 1, Operand.const (Value.int IntKind.i64 1))])
                      none [0, 2],
                    AOper.mk none (AOp.store 3 (Operand.tmp 6) (Operand.tmp 16)) none [3, 0, 1, 2, 3]]
def l74r5 : List AOper :=
  [AOper.mk (some 17) (AOp.mv (Operand.tmp 0)) none [], AOper.mk (some 18) (AOp.mv (Operand.tmp 2)) none [],
                AOper.mk (some 19)
                  (AOp.bin BinOp.sub (Operand.tmp 18) (Operand.const (Value.int IntKind.i64 1))) none [1],
                AOper.mk (some 20) (AOp.mv (Operand.tmp 1)) none [],
                AOper.mk (some 21) (AOp.bin BinOp.mul (Operand.tmp 19) (Operand.tmp 20)) none [2, 3],
                AOper.mk (some 22) (AOp.bin BinOp.add (Operand.tmp 17) (Operand.tmp 21)) none [0, 4],
                AOper.mk (some 7) (AOp.mv (Operand.tmp 22)) none [5, 0, 1, 2, 3, 4, 5]]
def l74r6 : List AOper :=
  [AOper.mk (some 23) (AOp.mv (Operand.tmp 1)) none [],
                    AOper.mk (some 24)
                      (AOp.bin BinOp.lss (Operand.tmp 23) (Operand.const (Value.int IntKind.i64 0))) none
                      [0]]
def l74r7 : List AOper :=
  [AOper.mk (some 25) (AOp.mv (Operand.tmp 0)) none [],
                        AOper.mk (some 26) (AOp.mv (Operand.tmp 7)) none [],
                        AOper.mk (some 27)
                          (AOp.bin BinOp.sub (Operand.tmp 26) (Operand.const (Value.int IntKind.i64 1)))
                          none [1],
                        AOper.mk (some 28) (AOp.mv (Operand.tmp 1)) none [],
                        AOper.mk (some 29)
                          (AOp.build
                            [Value.int IntKind.i64 0, Value.int IntKind.i64 0,
                              Value.int IntKind.i64 0]
                            [(0, 1, Operand.tmp 25), (1, 1, Operand.tmp 27), (2, 1, Operand.tmp 28)])
                          none [0, 2, 3],
                        AOper.mk none (AOp.store 3 (Operand.tmp 6) (Operand.tmp 29)) none [4, 0, 1, 2, 3, 4]]
def l74r8 : List AOper :=
  [AOper.mk (some 30) (AOp.mv (Operand.tmp 0)) none [],
                    AOper.mk (some 31) (AOp.mv (Operand.tmp 7)) none [],
                    AOper.mk (some 32)
                      (AOp.bin BinOp.add (Operand.tmp 31) (Operand.const (Value.int IntKind.i64 1))) none
                      [1],
                    AOper.mk (some 33) (AOp.mv (Operand.tmp 1)) none [],
                    AOper.mk (some 34)
                      (AOp.build
                        [Value.int IntKind.i64 0, Value.int IntKind.i64 0,
                          Value.int IntKind.i64 0]
                        [(0, 1, Operand.tmp 30), (1, 1, Operand.tmp 32), (2, 1, Operand.tmp 33)])
                      none [0, 2, 3],
                    AOper.mk none (AOp.store 3 (Operand.tmp 6) (Operand.tmp 34)) none [4, 0, 1, 2, 3, 4]]
def l74 : AFn :=
  (AFn.mk 35 3
    (ACode.seq
      (ACode.reg l74r0)
      (ACode.seq
        (ACode.seq
          (ACode.reg l74r1)
          (ACode.cond (Operand.tmp 9)
            (ACode.seq
              (ACode.reg l74r2)
              ACode.ret)
            ACode.skip))
        (ACode.seq
          (ACode.seq
            (ACode.reg l74r3)
            (ACode.cond (Operand.tmp 12)
              (ACode.seq
                (ACode.reg l74r4)
                ACode.ret)
              ACode.skip))
          (ACode.seq
            (ACode.reg l74r5)
            (ACode.seq
              (ACode.seq
                (ACode.reg l74r6)
                (ACode.cond (Operand.tmp 24)
                  (ACode.seq
                    (ACode.reg l74r7)
                    ACode.ret)
                  ACode.skip))
              (ACode.seq
                (ACode.reg l74r8)
                ACode.ret))))))
    [ARes.cell 6 true 3])
theorem l74_eq : lowFn Try.prog 74 = some l74 := by kernel_rfl
def l75r0 : List AOper :=
  [AOper.mk (some 4) (AOp.mv (Operand.const (Value.int IntKind.i64 0))) none []]
def l75r1 : List AOper :=
  [AOper.mk (some 7) (AOp.mv (Operand.tmp 0)) none [], AOper.mk (some 8) (AOp.mv (Operand.tmp 1)) none [],
            AOper.mk (some 5) (AOp.mv (Operand.tmp 7)) none [0, 0],
            AOper.mk (some 6) (AOp.mv (Operand.tmp 8)) none [1, 2, 0, 1, 2]]
def l75r2 : List AOper :=
  [AOper.mk (some 9) (AOp.mv (Operand.tmp 6)) none [],
                      AOper.mk (some 10)
                        (AOp.bin BinOp.gtr (Operand.tmp 9) (Operand.const (Value.int IntKind.i64 0))) none
                        [0]]
def l75r3a : List AOper :=
  [AOper.mk (some 11) (AOp.mv (Operand.tmp 6)) none [], AOper.mk (some 12) (AOp.mv (Operand.tmp 5)) none [], AOper.mk (some 13) (AOp.mv (Operand.tmp 6)) none [], AOper.mk (some 14) (AOp.bin BinOp.rem (Operand.tmp 12) (Operand.tmp 13)) none [1, 2], AOper.mk (some 5) (AOp.mv (Operand.tmp 11)) none [0, 0, 1]]
def l75r3b : List AOper :=
  [AOper.mk (some 6) (AOp.mv (Operand.tmp 14)) none [3, 4, 0, 1, 2, 3, 4]]
def l75r3 : List AOper := l75r3a ++ l75r3b
def l75r4 : List AOper :=
  [AOper.mk (some 15) (AOp.mv (Operand.tmp 0)) none [], AOper.mk (some 16) (AOp.mv (Operand.tmp 5)) none [],
                AOper.mk (some 17) (AOp.bin BinOp.quo (Operand.tmp 15) (Operand.tmp 16)) none [0, 1],
                AOper.mk (some 18) (AOp.mv (Operand.tmp 1)) none [],
                AOper.mk (some 19) (AOp.bin BinOp.mul (Operand.tmp 17) (Operand.tmp 18)) none [2, 3],
                AOper.mk (some 4) (AOp.mv (Operand.tmp 19)) none [4, 0, 1, 2, 3, 4]]
def l75 : AFn :=
  (AFn.mk 20 2
    (ACode.seq (ACode.reg l75r0)
      (ACode.seq
        (ACode.reg l75r1)
        (ACode.seq
          (ACode.block 0
            (ACode.loop
              (ACode.seq
                (ACode.seq
                  (ACode.reg l75r2)
                  (ACode.cond (Operand.tmp 10) ACode.skip (ACode.exit 0)))
                (ACode.block 1
                  (ACode.draw l75r3)))))
          (ACode.seq
            (ACode.reg l75r4)
            ACode.ret))))
    [ARes.tmp 4])
theorem l75_eq : lowFn Try.prog 75 = some l75 := by kernel_rfl
def l76r0 : List AOper :=
  [AOper.mk (some 4) (AOp.mv (Operand.const (Value.int IntKind.i64 0))) none []]
def l76r1 : List AOper :=
  [AOper.mk (some 5) (AOp.mv (Operand.const (Value.int IntKind.i64 0))) none []]
def l76r2 : List AOper :=
  [AOper.mk (some 6) (AOp.mv (Operand.tmp 5)) none [],
                      AOper.mk (some 7) (AOp.mv (Operand.tmp 0)) none [],
                      AOper.mk (some 8) (AOp.len (Operand.tmp 7)) none [1],
                      AOper.mk (some 9) (AOp.bin BinOp.lss (Operand.tmp 6) (Operand.tmp 8)) none [0, 2]]
def l76r3 : List AOper :=
  [AOper.mk (some 12) (AOp.mv (Operand.tmp 0)) none [],
                          AOper.mk (some 13) (AOp.mv (Operand.tmp 5)) none [],
                          AOper.mk (some 14) (AOp.idxA 1 (Operand.tmp 12) (Operand.tmp 13)) none [0, 1],
                          AOper.mk (some 15) (AOp.load false 1 (Operand.tmp 14)) none [2],
                          AOper.mk (some 16) (AOp.mv (Operand.tmp 1)) none [],
                          AOper.mk (some 17) (AOp.bin BinOp.eql (Operand.tmp 15) (Operand.tmp 16)) none [3, 4]]
def l76r4 : List AOper :=
  [AOper.mk (some 18) (AOp.mv (Operand.tmp 5)) none [],
                              AOper.mk (some 4) (AOp.mv (Operand.tmp 18)) none [0, 0]]
def l76r5 : List AOper :=
  [AOper.mk (some 10) (AOp.mv (Operand.tmp 5)) none [],
                      AOper.mk (some 11)
                        (AOp.bin BinOp.add (Operand.tmp 10) (Operand.const (Value.int IntKind.i64 1))) none
                        [0],
                      AOper.mk (some 5) (AOp.mv (Operand.tmp 11)) none [1, 0, 1]]
def l76r6 : List AOper :=
  [AOper.mk (some 4) (AOp.mv (Operand.const (Value.int IntKind.i64 (-1)))) none []]
def l76 : AFn :=
  (AFn.mk 19 2
    (ACode.seq (ACode.reg l76r0)
      (ACode.seq
        (ACode.seq
          (ACode.reg l76r1)
          (ACode.block 0
            (ACode.loop
              (ACode.seq
                (ACode.seq
                  (ACode.reg l76r2)
                  (ACode.cond (Operand.tmp 9) ACode.skip (ACode.exit 0)))
                (ACode.seq
                  (ACode.block 1
                    (ACode.seq
                      (ACode.reg l76r3)
                      (ACode.cond (Operand.tmp 17)
                        (ACode.seq
                          (ACode.reg l76r4)
                          ACode.ret)
                        ACode.skip)))
                  (ACode.reg l76r5))))))
        (ACode.seq
          (ACode.reg l76r6)
          ACode.ret)))
    [ARes.tmp 4])
theorem l76_eq : lowFn Try.prog 76 = some l76 := by kernel_rfl
end Go.Proofs.Ytniddegncklgpaa
