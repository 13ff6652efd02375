import Derived.Test.YtpccgeknhlekcaaCVwR
import Derived.Test.YtpccgeknhlekcaaProg
import Derived.KernelRfl
set_option maxRecDepth 100000
namespace Go.Proofs.Ytpccgeknhlekcaa
open Vw Go
def l6r0 : List AOper :=
  [AOper.mk (some 2) (AOp.box (Operand.tmp 0)) none [], AOper.mk (some 3) (AOp.box (Operand.tmp 1)) none [],
          AOper.mk (some 4) (AOp.mv (Operand.const (Value.bool false))) none []]
def l6r1 : List AOper :=
  [AOper.mk (some 5) (AOp.mv (Operand.const (Value.int IntKind.i64 1048576))) none []]
def l6r2 : List AOper :=
  [AOper.mk (some 10) (AOp.load true 3 (Operand.tmp 2)) none [],
              AOper.mk (some 11) (AOp.mv (Operand.tmp 5)) none [],
              AOper.mk (some 12) (AOp.call 11 [Operand.tmp 10, Operand.tmp 11]) none [0, 1],
              AOper.mk (some 5) (AOp.mv (Operand.tmp 12)) none [2, 2, 0, 1, 2]]
def l6r3 : List AOper :=
  [AOper.mk (some 13) (AOp.mv (Operand.tmp 5)) none [],
                  AOper.mk (some 14)
                    (AOp.bin BinOp.lss (Operand.tmp 13) (Operand.const (Value.int IntKind.i64 0))) none
                    [0]]
def l6r4 : List AOper :=
  [AOper.mk (some 4) (AOp.mv (Operand.const (Value.bool true))) none []]
def l6r5 : List AOper :=
  [AOper.mk (some 15) (AOp.load true 3 (Operand.tmp 3)) none [],
                  AOper.mk (some 16) (AOp.mv (Operand.tmp 5)) none [],
                  AOper.mk (some 17) (AOp.call 11 [Operand.tmp 15, Operand.tmp 16]) none [0, 1],
                  AOper.mk (some 5) (AOp.mv (Operand.tmp 17)) none [2, 2, 0, 1, 2]]
def l6r6 : List AOper :=
  [AOper.mk (some 18) (AOp.mv (Operand.tmp 5)) none [],
                      AOper.mk (some 19)
                        (AOp.bin BinOp.lss (Operand.tmp 18) (Operand.const (Value.int IntKind.i64 0))) none
                        [0]]
def l6r7 : List AOper :=
  [AOper.mk (some 4) (AOp.mv (Operand.const (Value.bool true))) none []]
def l6r8a : List AOper :=
  [AOper.mk (some 20) (AOp.load true 3 (Operand.tmp 2)) none [], AOper.mk (some 21) (AOp.call 13 [Operand.tmp 20]) none [0], AOper.mk (some 22) (AOp.load true 3 (Operand.tmp 3)) none []]
def l6r8b : List AOper :=
  [AOper.mk (some 23) (AOp.call 13 [Operand.tmp 22]) none [2, 1], AOper.mk (some 24) (AOp.call 20 [Operand.tmp 21, Operand.tmp 23]) none [1, 3, 3], AOper.mk (some 6) (AOp.mv (Operand.tmp 24)) none [4, 4, 0, 1, 2, 3, 4]]
def l6r8 : List AOper := l6r8a ++ l6r8b
def l6r9 : List AOper :=
  [AOper.mk (some 25) (AOp.load true 3 (Operand.tmp 2)) none [],
                        AOper.mk (some 26) (AOp.call 13 [Operand.tmp 25]) none [0],
                        AOper.mk (some 7)
                          (AOp.alloc [Value.int IntKind.i64 0, Value.slice none 0 0, Value.slice none 0 0])
                          none [],
                        AOper.mk none (AOp.store 3 (Operand.tmp 7) (Operand.tmp 26)) none [2, 1, 1, 0, 1, 2]]
def l6r10 : List AOper :=
  [AOper.mk (some 27) (AOp.load true 3 (Operand.tmp 3)) none [],
                          AOper.mk (some 28) (AOp.call 13 [Operand.tmp 27]) none [0],
                          AOper.mk (some 8)
                            (AOp.alloc
                              [Value.int IntKind.i64 0, Value.slice none 0 0, Value.slice none 0 0])
                            none [],
                          AOper.mk none (AOp.store 3 (Operand.tmp 8) (Operand.tmp 28)) none [2, 1, 1, 0, 1, 2]]
def l6r11 : List AOper :=
  [AOper.mk (some 29) (AOp.load true 3 (Operand.tmp 7)) none [],
                            AOper.mk (some 30) (AOp.load true 3 (Operand.tmp 8)) none [],
                            AOper.mk (some 31) (AOp.call 21 [Operand.tmp 29, Operand.tmp 30]) none [0, 1],
                            AOper.mk (some 9) (AOp.mv (Operand.tmp 31)) none [2, 2, 0, 1, 2]]
def l6r12 : List AOper :=
  [AOper.mk (some 32) (AOp.mv (Operand.tmp 9)) none [],
                                AOper.mk (some 33) (AOp.mv (Operand.tmp 6)) none [],
                                AOper.mk (some 34) (AOp.binB BinOp.neq (Operand.tmp 32) (Operand.tmp 33)) none [0, 1]]
def l6r13 : List AOper :=
  [AOper.mk (some 4) (AOp.mv (Operand.const (Value.bool false))) none []]
def l6r14a : List AOper :=
  [AOper.mk (some 35) (AOp.load true 3 (Operand.tmp 7)) none [], AOper.mk (some 36) (AOp.load true 3 (Operand.tmp 2)) none [], AOper.mk (some 37) (AOp.call 13 [Operand.tmp 36]) none [1]]
def l6r14b : List AOper :=
  [AOper.mk (some 38) (AOp.call 15 [Operand.tmp 35, Operand.tmp 37]) none [0, 2, 2], AOper.mk (some 39) (AOp.un UnOp.not (Operand.tmp 38)) none [3]]
def l6r14 : List AOper := l6r14a ++ l6r14b
def l6r15 : List AOper :=
  [AOper.mk (some 4) (AOp.mv (Operand.const (Value.bool false))) none []]
def l6r16a : List AOper :=
  [AOper.mk (some 40) (AOp.load true 3 (Operand.tmp 8)) none [], AOper.mk (some 41) (AOp.load true 3 (Operand.tmp 3)) none [], AOper.mk (some 42) (AOp.call 13 [Operand.tmp 41]) none [1]]
def l6r16b : List AOper :=
  [AOper.mk (some 43) (AOp.call 15 [Operand.tmp 40, Operand.tmp 42]) none [0, 2, 2], AOper.mk (some 44) (AOp.un UnOp.not (Operand.tmp 43)) none [3]]
def l6r16 : List AOper := l6r16a ++ l6r16b
def l6r17 : List AOper :=
  [AOper.mk (some 4) (AOp.mv (Operand.const (Value.bool false))) none []]
def l6r18 : List AOper :=
  [AOper.mk (some 4) (AOp.mv (Operand.const (Value.bool true))) none []]
def l6 : AFn :=
  (AFn.mk 45 2
    (ACode.seq
      (ACode.reg l6r0)
      (ACode.seq
        (ACode.reg l6r1)
        (ACode.seq
          (ACode.reg l6r2)
          (ACode.seq
            (ACode.seq
              (ACode.reg l6r3)
              (ACode.cond (Operand.tmp 14)
                (ACode.seq (ACode.reg l6r4) ACode.ret)
                ACode.skip))
            (ACode.seq
              (ACode.reg l6r5)
              (ACode.seq
                (ACode.seq
                  (ACode.reg l6r6)
                  (ACode.cond (Operand.tmp 19)
                    (ACode.seq (ACode.reg l6r7)
                      ACode.ret)
                    ACode.skip))
                (ACode.seq
                  (ACode.draw l6r8)
                  (ACode.seq
                    (ACode.reg l6r9)
                    (ACode.seq
                      (ACode.reg l6r10)
                      (ACode.seq
                        (ACode.reg l6r11)
                        (ACode.seq
                          (ACode.seq
                            (ACode.reg l6r12)
                            (ACode.cond (Operand.tmp 34)
                              (ACode.seq
                                (ACode.reg l6r13)
                                ACode.ret)
                              ACode.skip))
                          (ACode.seq
                            (ACode.seq
                              (ACode.draw l6r14)
                              (ACode.cond (Operand.tmp 39)
                                (ACode.seq
                                  (ACode.reg l6r15)
                                  ACode.ret)
                                ACode.skip))
                            (ACode.seq
                              (ACode.seq
                                (ACode.draw l6r16)
                                (ACode.cond (Operand.tmp 44)
                                  (ACode.seq
                                    (ACode.reg l6r17)
                                    ACode.ret)
                                  ACode.skip))
                              (ACode.seq
                                (ACode.reg l6r18)
                                ACode.ret))))))))))))))
    [ARes.tmp 4])
theorem l6_eq : lowFn Try.prog 6 = some l6 := by kernel_rfl
def l11r0 : List AOper :=
  [AOper.mk (some 2) (AOp.box (Operand.tmp 0)) none [],
          AOper.mk (some 4) (AOp.mv (Operand.const (Value.int IntKind.i64 0))) none []]
def l11r1 : List AOper :=
  [AOper.mk (some 5) (AOp.fld 1 (Operand.tmp 2)) none [],
            AOper.mk (some 6) (AOp.load false 1 (Operand.tmp 5)) none [0],
            AOper.mk (some 7) (AOp.mv (Operand.tmp 1)) none [],
            AOper.mk (some 8) (AOp.call 33 [Operand.tmp 6, Operand.tmp 7]) none [1, 2],
            AOper.mk (some 1) (AOp.mv (Operand.tmp 8)) none [3, 3, 0, 1, 2, 3]]
def l11r2 : List AOper :=
  [AOper.mk (some 9) (AOp.mv (Operand.tmp 1)) none [],
                AOper.mk (some 10)
                  (AOp.bin BinOp.lss (Operand.tmp 9) (Operand.const (Value.int IntKind.i64 0))) none [0]]
def l11r3 : List AOper :=
  [AOper.mk (some 4) (AOp.mv (Operand.const (Value.int IntKind.i64 (-1)))) none []]
def l11r4 : List AOper :=
  [AOper.mk (some 11) (AOp.fld 2 (Operand.tmp 2)) none [],
                AOper.mk (some 12) (AOp.load false 1 (Operand.tmp 11)) none [0],
                AOper.mk (some 13) (AOp.mv (Operand.tmp 1)) none [],
                AOper.mk (some 14) (AOp.call 33 [Operand.tmp 12, Operand.tmp 13]) none [1, 2],
                AOper.mk (some 1) (AOp.mv (Operand.tmp 14)) none [3, 3, 0, 1, 2, 3]]
def l11r5 : List AOper :=
  [AOper.mk (some 15) (AOp.mv (Operand.tmp 1)) none [],
                    AOper.mk (some 16)
                      (AOp.bin BinOp.lss (Operand.tmp 15) (Operand.const (Value.int IntKind.i64 0))) none
                      [0]]
def l11r6 : List AOper :=
  [AOper.mk (some 4) (AOp.mv (Operand.const (Value.int IntKind.i64 (-1)))) none []]
def l11r7 : List AOper :=
  [AOper.mk (some 17) (AOp.mv (Operand.tmp 1)) none [],
                    AOper.mk (some 4) (AOp.mv (Operand.tmp 17)) none [0, 0]]
def l11 : AFn :=
  (AFn.mk 18 2
    (ACode.seq
      (ACode.reg l11r0)
      (ACode.seq
        (ACode.reg l11r1)
        (ACode.seq
          (ACode.seq
            (ACode.reg l11r2)
            (ACode.cond (Operand.tmp 10)
              (ACode.seq
                (ACode.reg l11r3)
                ACode.ret)
              ACode.skip))
          (ACode.seq
            (ACode.reg l11r4)
            (ACode.seq
              (ACode.seq
                (ACode.reg l11r5)
                (ACode.cond (Operand.tmp 16)
                  (ACode.seq
                    (ACode.reg l11r6)
                    ACode.ret)
                  ACode.skip))
              (ACode.seq
                (ACode.reg l11r7)
                ACode.ret))))))
    [ARes.tmp 4])
theorem l11_eq : lowFn Try.prog 11 = some l11 := by kernel_rfl
def l13r0 : List AOper :=
  [AOper.mk (some 1) (AOp.box (Operand.tmp 0)) none [],
          AOper.mk (some 2)
            (AOp.alloc [Value.int IntKind.i64 0, Value.slice none 0 0, Value.slice none 0 0]) none []]
def l13r1 : List AOper :=
  [AOper.mk (some 3)
              (AOp.alloc [Value.int IntKind.i64 0, Value.slice none 0 0, Value.slice none 0 0]) none []]
def l13r2 : List AOper :=
  [AOper.mk (some 4) (AOp.fld 0 (Operand.tmp 1)) none [],
              AOper.mk (some 5) (AOp.load false 1 (Operand.tmp 4)) none [0],
              AOper.mk (some 6) (AOp.fld 0 (Operand.tmp 3)) none [0, 1],
              AOper.mk none (AOp.store 1 (Operand.tmp 6) (Operand.tmp 5)) none [2, 1, 0, 1]]
def l13r3 : List AOper :=
  [AOper.mk (some 7) (AOp.fld 1 (Operand.tmp 1)) none [],
                AOper.mk (some 8) (AOp.load false 1 (Operand.tmp 7)) none [0],
                AOper.mk (some 9) (AOp.call 37 [Operand.tmp 8]) none [1],
                AOper.mk (some 10) (AOp.fld 1 (Operand.tmp 3)) none [0, 1, 2],
                AOper.mk none (AOp.store 1 (Operand.tmp 10) (Operand.tmp 9)) none [3, 2, 2, 0, 1, 2]]
def l13r4 : List AOper :=
  [AOper.mk (some 11) (AOp.fld 2 (Operand.tmp 1)) none [],
                  AOper.mk (some 12) (AOp.load false 1 (Operand.tmp 11)) none [0],
                  AOper.mk (some 13) (AOp.call 37 [Operand.tmp 12]) none [1],
                  AOper.mk (some 14) (AOp.fld 2 (Operand.tmp 3)) none [0, 1, 2],
                  AOper.mk none (AOp.store 1 (Operand.tmp 14) (Operand.tmp 13)) none [3, 2, 2, 0, 1, 2]]
def l13r5 : List AOper :=
  [AOper.mk (some 15) (AOp.load true 3 (Operand.tmp 3)) none [],
                    AOper.mk none (AOp.store 3 (Operand.tmp 2) (Operand.tmp 15)) none [0, 0]]
def l13 : AFn :=
  (AFn.mk 16 1
    (ACode.seq
      (ACode.reg l13r0)
      (ACode.seq
        (ACode.reg l13r1)
        (ACode.seq
          (ACode.reg l13r2)
          (ACode.seq
            (ACode.reg l13r3)
            (ACode.seq
              (ACode.reg l13r4)
              (ACode.seq
                (ACode.reg l13r5)
                ACode.ret))))))
    [ARes.cell 2 true 3])
theorem l13_eq : lowFn Try.prog 13 = some l13 := by kernel_rfl
def l15r0 : List AOper :=
  [AOper.mk (some 2) (AOp.box (Operand.tmp 0)) none [], AOper.mk (some 3) (AOp.box (Operand.tmp 1)) none [],
          AOper.mk (some 4) (AOp.mv (Operand.const (Value.bool false))) none []]
def l15r1 : List AOper :=
  [AOper.mk (some 5) (AOp.fld 0 (Operand.tmp 2)) none [],
              AOper.mk (some 6) (AOp.load false 1 (Operand.tmp 5)) none [0],
              AOper.mk (some 7) (AOp.fld 0 (Operand.tmp 3)) none [],
              AOper.mk (some 8) (AOp.load false 1 (Operand.tmp 7)) none [2],
              AOper.mk (some 9) (AOp.bin BinOp.neq (Operand.tmp 6) (Operand.tmp 8)) none [1, 3]]
def l15r2 : List AOper :=
  [AOper.mk (some 4) (AOp.mv (Operand.const (Value.bool false))) none []]
def l15r3 : List AOper :=
  [AOper.mk (some 10) (AOp.fld 1 (Operand.tmp 2)) none [],
                AOper.mk (some 11) (AOp.load false 1 (Operand.tmp 10)) none [0],
                AOper.mk (some 12) (AOp.fld 1 (Operand.tmp 3)) none [],
                AOper.mk (some 13) (AOp.load false 1 (Operand.tmp 12)) none [2],
                AOper.mk (some 14) (AOp.call 41 [Operand.tmp 11, Operand.tmp 13]) none [1, 3],
                AOper.mk (some 15) (AOp.un UnOp.not (Operand.tmp 14)) none [4]]
def l15r4 : List AOper :=
  [AOper.mk (some 4) (AOp.mv (Operand.const (Value.bool false))) none []]
def l15r5 : List AOper :=
  [AOper.mk (some 16) (AOp.fld 2 (Operand.tmp 2)) none [],
                  AOper.mk (some 17) (AOp.load false 1 (Operand.tmp 16)) none [0],
                  AOper.mk (some 18) (AOp.fld 2 (Operand.tmp 3)) none [],
                  AOper.mk (some 19) (AOp.load false 1 (Operand.tmp 18)) none [2],
                  AOper.mk (some 20) (AOp.call 41 [Operand.tmp 17, Operand.tmp 19]) none [1, 3],
                  AOper.mk (some 21) (AOp.un UnOp.not (Operand.tmp 20)) none [4]]
def l15r6 : List AOper :=
  [AOper.mk (some 4) (AOp.mv (Operand.const (Value.bool false))) none []]
def l15r7 : List AOper :=
  [AOper.mk (some 4) (AOp.mv (Operand.const (Value.bool true))) none []]
def l15 : AFn :=
  (AFn.mk 22 2
    (ACode.seq
      (ACode.reg l15r0)
      (ACode.seq
        (ACode.seq
          (ACode.reg l15r1)
          (ACode.cond (Operand.tmp 9)
            (ACode.seq (ACode.reg l15r2) ACode.ret)
            ACode.skip))
        (ACode.seq
          (ACode.seq
            (ACode.reg l15r3)
            (ACode.cond (Operand.tmp 15)
              (ACode.seq (ACode.reg l15r4) ACode.ret)
              ACode.skip))
          (ACode.seq
            (ACode.seq
              (ACode.reg l15r5)
              (ACode.cond (Operand.tmp 21)
                (ACode.seq (ACode.reg l15r6)
                  ACode.ret)
                ACode.skip))
            (ACode.seq (ACode.reg l15r7) ACode.ret)))))
    [ARes.tmp 4])
theorem l15_eq : lowFn Try.prog 15 = some l15 := by kernel_rfl
def l20r0 : List AOper :=
  [AOper.mk (some 2) (AOp.box (Operand.tmp 0)) none [], AOper.mk (some 3) (AOp.box (Operand.tmp 1)) none [],
          AOper.mk (some 4) (AOp.mv (Operand.const (Value.bool false))) none []]
def l20r1a : List AOper :=
  [AOper.mk (some 5) (AOp.load true 3 (Operand.tmp 2)) none [], AOper.mk (some 6) (AOp.call 34 [Operand.tmp 5]) none [0], AOper.mk (some 7) (AOp.mv (Operand.tmp 6)) none [1, 1], AOper.mk (some 8) (AOp.load true 3 (Operand.tmp 3)) (some (7, true)) [2], AOper.mk (some 9) (AOp.call 34 [Operand.tmp 8]) (some (7, true)) [3, 2, 2], AOper.mk (some 10) (AOp.pick (Operand.tmp 7) (Operand.tmp 9) (Operand.const (Value.bool false))) none
              [2, 4], AOper.mk (some 11) (AOp.mv (Operand.tmp 10)) none [5, 4], AOper.mk (some 12) (AOp.fld 1 (Operand.tmp 2)) (some (11, true)) [6], AOper.mk (some 13) (AOp.load false 1 (Operand.tmp 12)) (some (11, true)) [7, 6], AOper.mk (some 14) (AOp.fld 1 (Operand.tmp 3)) (some (11, true)) [6], AOper.mk (some 15) (AOp.load false 1 (Operand.tmp 14)) (some (11, true)) [9, 6], AOper.mk (some 16) (AOp.call 47 [Operand.tmp 13, Operand.tmp 15]) (some (11, true)) [8, 10, 6, 6], AOper.mk (some 17) (AOp.pick (Operand.tmp 11) (Operand.tmp 16) (Operand.const (Value.bool false))) none
              [6, 11], AOper.mk (some 18) (AOp.mv (Operand.tmp 17)) none [12, 11], AOper.mk (some 19) (AOp.load true 3 (Operand.tmp 2)) (some (18, true)) [13], AOper.mk (some 20) (AOp.call 45 [Operand.tmp 19]) (some (18, true)) [14, 13, 13], AOper.mk (some 21) (AOp.load true 3 (Operand.tmp 3)) (some (18, true)) [13]]
def l20r1b : List AOper :=
  [AOper.mk (some 22) (AOp.call 45 [Operand.tmp 21]) (some (18, true)) [16, 15, 13], AOper.mk (some 23) (AOp.call 47 [Operand.tmp 20, Operand.tmp 22]) (some (18, true)) [15, 17, 17, 13], AOper.mk (some 24) (AOp.pick (Operand.tmp 18) (Operand.tmp 23) (Operand.const (Value.bool false))) none
              [13, 18], AOper.mk (some 4) (AOp.mv (Operand.tmp 24)) none
              [19, 18, 0, 1, 2, 3, 4, 5, 6, 7, 8, 9, 10, 11, 12, 13, 14, 15, 16, 17, 18, 19]]
def l20r1 : List AOper := l20r1a ++ l20r1b
def l20 : AFn :=
  (AFn.mk 25 2
    (ACode.seq
      (ACode.reg l20r0)
      (ACode.seq
        (ACode.draw l20r1)
        ACode.ret))
    [ARes.tmp 4])
theorem l20_eq : lowFn Try.prog 20 = some l20 := by kernel_rfl
def l21r0 : List AOper :=
  [AOper.mk (some 2) (AOp.box (Operand.tmp 0)) none [], AOper.mk (some 3) (AOp.box (Operand.tmp 1)) none [],
          AOper.mk (some 4) (AOp.mv (Operand.const (Value.bool false))) none []]
def l21r1a : List AOper :=
  [AOper.mk (some 5) (AOp.load true 3 (Operand.tmp 2)) none [], AOper.mk (some 6) (AOp.call 38 [Operand.tmp 5]) none [0], AOper.mk (some 7) (AOp.mv (Operand.tmp 6)) none [1, 1], AOper.mk (some 8) (AOp.load true 3 (Operand.tmp 3)) (some (7, true)) [2], AOper.mk (some 9) (AOp.call 38 [Operand.tmp 8]) (some (7, true)) [3, 2, 2], AOper.mk (some 10) (AOp.pick (Operand.tmp 7) (Operand.tmp 9) (Operand.const (Value.bool false))) none
              [2, 4], AOper.mk (some 11) (AOp.mv (Operand.tmp 10)) none [5, 4], AOper.mk (some 12) (AOp.fld 1 (Operand.tmp 2)) (some (11, true)) [6], AOper.mk (some 13) (AOp.load false 1 (Operand.tmp 12)) (some (11, true)) [7, 6], AOper.mk (some 14) (AOp.fld 1 (Operand.tmp 3)) (some (11, true)) [6], AOper.mk (some 15) (AOp.load false 1 (Operand.tmp 14)) (some (11, true)) [9, 6], AOper.mk (some 16) (AOp.call 48 [Operand.tmp 13, Operand.tmp 15]) (some (11, true)) [8, 10, 6, 6], AOper.mk (some 17) (AOp.pick (Operand.tmp 11) (Operand.tmp 16) (Operand.const (Value.bool false))) none
              [6, 11], AOper.mk (some 18) (AOp.mv (Operand.tmp 17)) none [12, 11], AOper.mk (some 19) (AOp.load true 3 (Operand.tmp 2)) (some (18, true)) [13], AOper.mk (some 20) (AOp.call 46 [Operand.tmp 19]) (some (18, true)) [14, 13, 13], AOper.mk (some 21) (AOp.load true 3 (Operand.tmp 3)) (some (18, true)) [13]]
def l21r1b : List AOper :=
  [AOper.mk (some 22) (AOp.call 46 [Operand.tmp 21]) (some (18, true)) [16, 15, 13], AOper.mk (some 23) (AOp.call 48 [Operand.tmp 20, Operand.tmp 22]) (some (18, true)) [15, 17, 17, 13], AOper.mk (some 24) (AOp.pick (Operand.tmp 18) (Operand.tmp 23) (Operand.const (Value.bool false))) none
              [13, 18], AOper.mk (some 4) (AOp.mv (Operand.tmp 24)) none
              [19, 18, 0, 1, 2, 3, 4, 5, 6, 7, 8, 9, 10, 11, 12, 13, 14, 15, 16, 17, 18, 19]]
def l21r1 : List AOper := l21r1a ++ l21r1b
def l21 : AFn :=
  (AFn.mk 25 2
    (ACode.seq
      (ACode.reg l21r0)
      (ACode.seq
        (ACode.draw l21r1)
        ACode.ret))
    [ARes.tmp 4])
theorem l21_eq : lowFn Try.prog 21 = some l21 := by kernel_rfl
def l33r0 : List AOper :=
  [AOper.mk (some 4) (AOp.mv (Operand.const (Value.int IntKind.i64 0))) none []]
def l33r1 : List AOper :=
  [AOper.mk (some 5) (AOp.mv (Operand.tmp 1)) none [], AOper.mk (some 6) (AOp.mv (Operand.tmp 0)) none [],
            AOper.mk (some 7) (AOp.len (Operand.tmp 6)) none [1],
            AOper.mk (some 8) (AOp.bin BinOp.sub (Operand.tmp 5) (Operand.tmp 7)) none [0, 2],
            AOper.mk (some 1) (AOp.mv (Operand.tmp 8)) none [3, 0, 1, 2, 3]]
def l33r2 : List AOper :=
  [AOper.mk (some 9) (AOp.mv (Operand.tmp 1)) none [],
                AOper.mk (some 10)
                  (AOp.bin BinOp.lss (Operand.tmp 9) (Operand.const (Value.int IntKind.i64 0))) none [0]]
def l33r3 : List AOper :=
  [AOper.mk (some 4) (AOp.mv (Operand.const (Value.int IntKind.i64 (-1)))) none []]
def l33r4 : List AOper :=
  [AOper.mk (some 11) (AOp.mv (Operand.tmp 1)) none [],
                AOper.mk (some 4) (AOp.mv (Operand.tmp 11)) none [0, 0]]
def l33 : AFn :=
  (AFn.mk 12 2
    (ACode.seq (ACode.reg l33r0)
      (ACode.seq
        (ACode.reg l33r1)
        (ACode.seq
          (ACode.seq
            (ACode.reg l33r2)
            (ACode.cond (Operand.tmp 10)
              (ACode.seq
                (ACode.reg l33r3)
                ACode.ret)
              ACode.skip))
          (ACode.seq
            (ACode.reg l33r4)
            ACode.ret))))
    [ARes.tmp 4])
theorem l33_eq : lowFn Try.prog 33 = some l33 := by kernel_rfl
def l34r0 : List AOper :=
  [AOper.mk (some 1) (AOp.box (Operand.tmp 0)) none [],
          AOper.mk (some 2) (AOp.mv (Operand.const (Value.bool false))) none []]
def l34r1 : List AOper :=
  [AOper.mk (some 3) (AOp.fld 1 (Operand.tmp 1)) none [],
            AOper.mk (some 4) (AOp.load false 1 (Operand.tmp 3)) none [0],
            AOper.mk (some 5) (AOp.call 68 [Operand.tmp 4]) none [1],
            AOper.mk (some 6) (AOp.mv (Operand.tmp 5)) none [2, 2],
            AOper.mk (some 7) (AOp.fld 2 (Operand.tmp 1)) (some (6, true)) [3],
            AOper.mk (some 8) (AOp.load false 1 (Operand.tmp 7)) (some (6, true)) [4, 3],
            AOper.mk (some 9) (AOp.len (Operand.tmp 8)) (some (6, true)) [5, 3],
            AOper.mk (some 10) (AOp.fld 1 (Operand.tmp 1)) (some (6, true)) [3],
            AOper.mk (some 11) (AOp.load false 1 (Operand.tmp 10)) (some (6, true)) [7, 3],
            AOper.mk (some 12) (AOp.len (Operand.tmp 11)) (some (6, true)) [8, 3],
            AOper.mk (some 13) (AOp.bin BinOp.eql (Operand.tmp 9) (Operand.tmp 12)) (some (6, true)) [6, 9, 3],
            AOper.mk (some 14) (AOp.pick (Operand.tmp 6) (Operand.tmp 13) (Operand.const (Value.bool false))) none
              [3, 10],
            AOper.mk (some 15) (AOp.mv (Operand.tmp 14)) none [11, 3],
            AOper.mk (some 16) (AOp.fld 2 (Operand.tmp 1)) (some (15, true)) [12],
            AOper.mk (some 17) (AOp.load false 1 (Operand.tmp 16)) (some (15, true)) [13, 12],
            AOper.mk (some 18)
              (AOp.call 69
                [Operand.tmp 17, Operand.const (Value.int IntKind.i64 (-60)),
                  Operand.const (Value.int IntKind.i64 60)])
              (some (15, true)) [14, 12, 12],
            AOper.mk (some 19) (AOp.pick (Operand.tmp 15) (Operand.tmp 18) (Operand.const (Value.bool false))) none
              [12, 15],
            AOper.mk (some 20) (AOp.mv (Operand.tmp 19)) none [16, 15],
            AOper.mk (some 21) (AOp.fld 0 (Operand.tmp 1)) (some (20, true)) [17],
            AOper.mk (some 22) (AOp.load false 1 (Operand.tmp 21)) (some (20, true)) [18, 17],
            AOper.mk (some 23)
              (AOp.call 62
                [Operand.tmp 22, Operand.const (Value.int IntKind.i64 0),
                  Operand.const (Value.int IntKind.i64 60)])
              (some (20, true)) [19, 17, 17],
            AOper.mk (some 24) (AOp.pick (Operand.tmp 20) (Operand.tmp 23) (Operand.const (Value.bool false))) none
              [17, 20],
            AOper.mk (some 25) (AOp.mv (Operand.tmp 24)) none [21, 20],
            AOper.mk (some 26) (AOp.fld 1 (Operand.tmp 1)) (some (25, true)) [22],
            AOper.mk (some 27) (AOp.load false 1 (Operand.tmp 26)) (some (25, true)) [23, 22],
            AOper.mk (some 28) (AOp.call 70 [Operand.tmp 27]) (some (25, true)) [24, 22, 22],
            AOper.mk (some 29)
              (AOp.bin BinOp.eql (Operand.tmp 28) (Operand.const (Value.int IntKind.i64 0)))
              (some (25, true)) [25, 22],
            AOper.mk (some 30) (AOp.mv (Operand.tmp 29)) (some (25, true)) [26, 25, 22],
            AOper.mk (some 31) (AOp.load true 3 (Operand.tmp 1)) (some (30, false)) [27],
            AOper.mk (some 32) (AOp.call 45 [Operand.tmp 31]) (some (30, false)) [28, 27, 27],
            AOper.mk (some 33)
              (AOp.call 69
                [Operand.tmp 32, Operand.const (Value.int IntKind.i64 0),
                  Operand.const (Value.int IntKind.i64 59)])
              (some (30, false)) [29, 29, 27],
            AOper.mk (some 34) (AOp.pick (Operand.tmp 30) (Operand.const (Value.bool true)) (Operand.tmp 33))
              (some (25, true)) [27, 30, 22],
            AOper.mk (some 35) (AOp.pick (Operand.tmp 25) (Operand.tmp 34) (Operand.const (Value.bool false))) none
              [22, 31],
            AOper.mk (some 2) (AOp.mv (Operand.tmp 35)) none
              [32, 30, 0, 1, 2, 3, 4, 5, 6, 7, 8, 9, 10, 11, 12, 13, 14, 15, 16, 17, 18, 19, 20, 21, 22, 23, 24, 25, 26,
                27, 28, 29, 30, 31, 32]]
def l34 : AFn :=
  (AFn.mk 36 1
    (ACode.seq
      (ACode.reg l34r0)
      (ACode.seq
        (ACode.reg l34r1)
        ACode.ret))
    [ARes.tmp 2])
theorem l34_eq : lowFn Try.prog 34 = some l34 := by kernel_rfl
def l37r0 : List AOper :=
  [AOper.mk (some 2) (AOp.mv (Operand.const (Value.slice none 0 0))) none []]
def l37r1 : List AOper :=
  [AOper.mk (some 5) (AOp.mv (Operand.tmp 0)) none [], AOper.mk (some 6) (AOp.len (Operand.tmp 5)) none [0],
            AOper.mk (some 7) (AOp.mkslice 1 [Value.int IntKind.i64 0] (Operand.tmp 6) (Operand.tmp 6)) none
              [1, 1],
            AOper.mk (some 3) (AOp.mv (Operand.tmp 7)) none [2, 0, 1, 2]]
def l37r2 : List AOper :=
  [AOper.mk (some 4) (AOp.mv (Operand.const (Value.int IntKind.i64 0))) none []]
def l37r3 : List AOper :=
  [AOper.mk (some 8) (AOp.mv (Operand.tmp 4)) none [],
                        AOper.mk (some 9) (AOp.mv (Operand.tmp 0)) none [],
                        AOper.mk (some 10) (AOp.len (Operand.tmp 9)) none [1],
                        AOper.mk (some 11) (AOp.bin BinOp.lss (Operand.tmp 8) (Operand.tmp 10)) none [0, 2]]
def l37r4 : List AOper :=
  [AOper.mk (some 14) (AOp.mv (Operand.tmp 3)) none [],
                          AOper.mk (some 15) (AOp.mv (Operand.tmp 4)) none [],
                          AOper.mk (some 16) (AOp.mv (Operand.tmp 0)) none [],
                          AOper.mk (some 17) (AOp.mv (Operand.tmp 4)) none [],
                          AOper.mk (some 18) (AOp.idxA 1 (Operand.tmp 16) (Operand.tmp 17)) none [2, 3],
                          AOper.mk (some 19) (AOp.load false 1 (Operand.tmp 18)) none [4],
                          AOper.mk (some 20) (AOp.idxA 1 (Operand.tmp 14) (Operand.tmp 15)) none
                            [0, 1, 0, 1, 2, 3, 4, 5],
                          AOper.mk none (AOp.store 1 (Operand.tmp 20) (Operand.tmp 19)) none [6, 5, 0, 1, 2, 3, 4, 5]]
def l37r5 : List AOper :=
  [AOper.mk (some 12) (AOp.mv (Operand.tmp 4)) none [],
                        AOper.mk (some 13)
                          (AOp.bin BinOp.add (Operand.tmp 12) (Operand.const (Value.int IntKind.i64 1)))
                          none [0],
                        AOper.mk (some 4) (AOp.mv (Operand.tmp 13)) none [1, 0, 1]]
def l37r6 : List AOper :=
  [AOper.mk (some 21) (AOp.mv (Operand.tmp 3)) none [],
                AOper.mk (some 2) (AOp.mv (Operand.tmp 21)) none [0, 0]]
def l37 : AFn :=
  (AFn.mk 22 1
    (ACode.seq (ACode.reg l37r0)
      (ACode.seq
        (ACode.reg l37r1)
        (ACode.seq
          (ACode.seq
            (ACode.reg l37r2)
            (ACode.block 0
              (ACode.loop
                (ACode.seq
                  (ACode.seq
                    (ACode.reg l37r3)
                    (ACode.cond (Operand.tmp 11) ACode.skip (ACode.exit 0)))
                  (ACode.seq
                    (ACode.block 1
                      (ACode.reg l37r4))
                    (ACode.reg l37r5))))))
          (ACode.seq
            (ACode.reg l37r6)
            ACode.ret))))
    [ARes.tmp 2])
theorem l37_eq : lowFn Try.prog 37 = some l37 := by kernel_rfl
def l38r0 : List AOper :=
  [AOper.mk (some 1) (AOp.box (Operand.tmp 0)) none [],
          AOper.mk (some 2) (AOp.mv (Operand.const (Value.bool false))) none []]
def l38r1 : List AOper :=
  [AOper.mk (some 5) (AOp.fld 1 (Operand.tmp 1)) none [],
              AOper.mk (some 6) (AOp.load false 1 (Operand.tmp 5)) none [0],
              AOper.mk (some 7) (AOp.call 71 [Operand.tmp 6]) none [1],
              AOper.mk (some 8) (AOp.un UnOp.not (Operand.tmp 7)) none [2],
              AOper.mk (some 9) (AOp.mv (Operand.tmp 8)) none [3, 2],
              AOper.mk (some 10) (AOp.fld 2 (Operand.tmp 1)) (some (9, false)) [4],
              AOper.mk (some 11) (AOp.load false 1 (Operand.tmp 10)) (some (9, false)) [5, 4],
              AOper.mk (some 12) (AOp.fld 1 (Operand.tmp 1)) (some (9, false)) [4],
              AOper.mk (some 13) (AOp.load false 1 (Operand.tmp 12)) (some (9, false)) [7, 4],
              AOper.mk (some 14) (AOp.len (Operand.tmp 13)) (some (9, false)) [8, 4],
              AOper.mk (some 15) (AOp.call 72 [Operand.tmp 11, Operand.tmp 14]) (some (9, false)) [6, 9, 4, 4],
              AOper.mk (some 16) (AOp.un UnOp.not (Operand.tmp 15)) (some (9, false)) [10, 4],
              AOper.mk (some 17) (AOp.pick (Operand.tmp 9) (Operand.const (Value.bool true)) (Operand.tmp 16)) none
                [4, 11],
              AOper.mk (some 18) (AOp.mv (Operand.tmp 17)) none [12, 10],
              AOper.mk (some 19) (AOp.fld 0 (Operand.tmp 1)) (some (18, false)) [13],
              AOper.mk (some 20) (AOp.load false 1 (Operand.tmp 19)) (some (18, false)) [14, 13],
              AOper.mk (some 21) (AOp.call 73 [Operand.tmp 20, Operand.const (Value.int IntKind.i64 60)])
                (some (18, false)) [15, 13, 13],
              AOper.mk (some 22) (AOp.un UnOp.not (Operand.tmp 21)) (some (18, false)) [16, 13],
              AOper.mk (some 23) (AOp.pick (Operand.tmp 18) (Operand.const (Value.bool true)) (Operand.tmp 22)) none
                [13, 17]]
def l38r2 : List AOper :=
  [AOper.mk (some 2) (AOp.mv (Operand.const (Value.bool false))) none []]
def l38r3 : List AOper :=
  [AOper.mk (some 25) (AOp.load true 3 (Operand.tmp 1)) none [],
              AOper.mk (some 26) (AOp.call 74 [Operand.tmp 25]) none [0],
              AOper.mk (some 24) (AOp.mv (Operand.tmp 26)) none [1],
              AOper.mk (some 27) (AOp.extract (Operand.tmp 24) 0) none [2],
              AOper.mk (some 28) (AOp.extract (Operand.tmp 24) 1) none [2],
              AOper.mk (some 3) (AOp.mv (Operand.tmp 27)) none [3, 1, 0, 1, 2, 3],
              AOper.mk (some 4) (AOp.mv (Operand.tmp 28)) none [4, 5, 0, 1, 2, 3, 4, 5]]
def l38r4 : List AOper :=
  [AOper.mk (some 29) (AOp.load true 3 (Operand.tmp 1)) none [],
                AOper.mk (some 30) (AOp.call 75 [Operand.tmp 29]) none [0],
                AOper.mk (some 31)
                  (AOp.bin BinOp.eql (Operand.tmp 30) (Operand.const (Value.int IntKind.i64 0))) none [1],
                AOper.mk (some 32) (AOp.mv (Operand.tmp 31)) none [2, 1],
                AOper.mk (some 33) (AOp.mv (Operand.tmp 3)) (some (32, false)) [3],
                AOper.mk (some 34)
                  (AOp.bin BinOp.geq (Operand.tmp 33) (Operand.const (Value.int IntKind.i64 0)))
                  (some (32, false)) [4, 3],
                AOper.mk (some 35) (AOp.mv (Operand.tmp 34)) (some (32, false)) [5, 3, 3],
                AOper.mk (some 36) (AOp.mv (Operand.tmp 4)) (some (35, true)) [6],
                AOper.mk (some 37)
                  (AOp.bin BinOp.lss (Operand.tmp 36) (Operand.const (Value.int IntKind.i64 60)))
                  (some (35, true)) [7, 6],
                AOper.mk (some 38) (AOp.pick (Operand.tmp 35) (Operand.tmp 37) (Operand.const (Value.bool false)))
                  (some (32, false)) [6, 8, 3],
                AOper.mk (some 39) (AOp.pick (Operand.tmp 32) (Operand.const (Value.bool true)) (Operand.tmp 38)) none
                  [3, 9],
                AOper.mk (some 2) (AOp.mv (Operand.tmp 39)) none [10, 6, 0, 1, 2, 3, 4, 5, 6, 7, 8, 9, 10]]
def l38 : AFn :=
  (AFn.mk 40 1
    (ACode.seq
      (ACode.reg l38r0)
      (ACode.seq
        (ACode.seq
          (ACode.reg l38r1)
          (ACode.cond (Operand.tmp 23)
            (ACode.seq (ACode.reg l38r2) ACode.ret)
            ACode.skip))
        (ACode.seq
          (ACode.reg l38r3)
          (ACode.seq
            (ACode.reg l38r4)
            ACode.ret))))
    [ARes.tmp 2])
theorem l38_eq : lowFn Try.prog 38 = some l38 := by kernel_rfl
def l41r0 : List AOper :=
  [AOper.mk (some 4) (AOp.mv (Operand.const (Value.bool false))) none []]
def l41r1 : List AOper :=
  [AOper.mk (some 6) (AOp.mv (Operand.tmp 0)) none [], AOper.mk (some 7) (AOp.len (Operand.tmp 6)) none [0],
              AOper.mk (some 8) (AOp.mv (Operand.tmp 1)) none [], AOper.mk (some 9) (AOp.len (Operand.tmp 8)) none [2],
              AOper.mk (some 10) (AOp.bin BinOp.neq (Operand.tmp 7) (Operand.tmp 9)) none [1, 3]]
def l41r2 : List AOper :=
  [AOper.mk (some 4) (AOp.mv (Operand.const (Value.bool false))) none []]
def l41r3 : List AOper :=
  [AOper.mk (some 5) (AOp.mv (Operand.const (Value.int IntKind.i64 0))) none []]
def l41r4 : List AOper :=
  [AOper.mk (some 11) (AOp.mv (Operand.tmp 5)) none [],
                        AOper.mk (some 12) (AOp.mv (Operand.tmp 0)) none [],
                        AOper.mk (some 13) (AOp.len (Operand.tmp 12)) none [1],
                        AOper.mk (some 14) (AOp.bin BinOp.lss (Operand.tmp 11) (Operand.tmp 13)) none [0, 2]]
def l41r5a : List AOper :=
  [AOper.mk (some 17) (AOp.mv (Operand.tmp 0)) none [], AOper.mk (some 18) (AOp.mv (Operand.tmp 5)) none [], AOper.mk (some 19) (AOp.idxA 1 (Operand.tmp 17) (Operand.tmp 18)) none [0, 1], AOper.mk (some 20) (AOp.load false 1 (Operand.tmp 19)) none [2], AOper.mk (some 21) (AOp.mv (Operand.tmp 1)) none [], AOper.mk (some 22) (AOp.mv (Operand.tmp 5)) none [], AOper.mk (some 23) (AOp.idxA 1 (Operand.tmp 21) (Operand.tmp 22)) none [4, 5], AOper.mk (some 24) (AOp.load false 1 (Operand.tmp 23)) none [6]]
def l41r5b : List AOper :=
  [AOper.mk (some 25) (AOp.bin BinOp.neq (Operand.tmp 20) (Operand.tmp 24)) none [3, 7]]
def l41r5 : List AOper := l41r5a ++ l41r5b
def l41r6 : List AOper :=
  [AOper.mk (some 4) (AOp.mv (Operand.const (Value.bool false))) none []]
def l41r7 : List AOper :=
  [AOper.mk (some 15) (AOp.mv (Operand.tmp 5)) none [],
                        AOper.mk (some 16)
                          (AOp.bin BinOp.add (Operand.tmp 15) (Operand.const (Value.int IntKind.i64 1)))
                          none [0],
                        AOper.mk (some 5) (AOp.mv (Operand.tmp 16)) none [1, 0, 1]]
def l41r8 : List AOper :=
  [AOper.mk (some 4) (AOp.mv (Operand.const (Value.bool true))) none []]
def l41 : AFn :=
  (AFn.mk 26 2
    (ACode.seq (ACode.reg l41r0)
      (ACode.seq
        (ACode.seq
          (ACode.reg l41r1)
          (ACode.cond (Operand.tmp 10)
            (ACode.seq (ACode.reg l41r2) ACode.ret)
            ACode.skip))
        (ACode.seq
          (ACode.seq
            (ACode.reg l41r3)
            (ACode.block 0
              (ACode.loop
                (ACode.seq
                  (ACode.seq
                    (ACode.reg l41r4)
                    (ACode.cond (Operand.tmp 14) ACode.skip (ACode.exit 0)))
                  (ACode.seq
                    (ACode.block 1
                      (ACode.seq
                        (ACode.draw l41r5)
                        (ACode.cond (Operand.tmp 25)
                          (ACode.seq (ACode.reg l41r6)
                            ACode.ret)
                          ACode.skip)))
                    (ACode.reg l41r7))))))
          (ACode.seq (ACode.reg l41r8) ACode.ret))))
    [ARes.tmp 4])
theorem l41_eq : lowFn Try.prog 41 = some l41 := by kernel_rfl
def l45r0 : List AOper :=
  [AOper.mk (some 1) (AOp.box (Operand.tmp 0)) none [],
          AOper.mk (some 2) (AOp.mv (Operand.const (Value.slice none 0 0))) none []]
def l45r1 : List AOper :=
  [AOper.mk (some 5) (AOp.bslice 1 [Value.int IntKind.i64 0] [] 0) none [],
            AOper.mk (some 3) (AOp.mv (Operand.tmp 5)) none [0, 0]]
def l45r2 : List AOper :=
  [AOper.mk (some 4) (AOp.mv (Operand.const (Value.int IntKind.i64 0))) none []]
def l45r3 : List AOper :=
  [AOper.mk (some 6) (AOp.mv (Operand.tmp 4)) none [],
                        AOper.mk (some 7) (AOp.fld 1 (Operand.tmp 1)) none [],
                        AOper.mk (some 8) (AOp.load false 1 (Operand.tmp 7)) none [1],
                        AOper.mk (some 9) (AOp.call 70 [Operand.tmp 8]) none [2],
                        AOper.mk (some 10) (AOp.bin BinOp.lss (Operand.tmp 6) (Operand.tmp 9)) none [0, 3]]
def l45r4a : List AOper :=
  [AOper.mk (some 13) (AOp.mv (Operand.tmp 3)) none [], AOper.mk (some 14) (AOp.load true 3 (Operand.tmp 1)) none [], AOper.mk (some 15) (AOp.fld 1 (Operand.tmp 1)) none [], AOper.mk (some 16) (AOp.load false 1 (Operand.tmp 15)) none [2], AOper.mk (some 17) (AOp.mv (Operand.tmp 4)) none [], AOper.mk (some 18) (AOp.call 79 [Operand.tmp 16, Operand.tmp 17]) none [3, 4], AOper.mk (some 19) (AOp.call 78 [Operand.tmp 14, Operand.tmp 18]) none [1, 5, 5], AOper.mk (some 20)
                            (AOp.bslice 1 [Value.int IntKind.i64 0] [(0, Operand.tmp 19)] 1) none [6]]
def l45r4b : List AOper :=
  [AOper.mk (some 21) (AOp.append 1 (Operand.tmp 13) (Operand.tmp 20)) none [0, 7, 6], AOper.mk (some 3) (AOp.mv (Operand.tmp 21)) none [8, 8, 0, 1, 2, 3, 4, 5, 6, 7, 8]]
def l45r4 : List AOper := l45r4a ++ l45r4b
def l45r5 : List AOper :=
  [AOper.mk (some 11) (AOp.mv (Operand.tmp 4)) none [],
                        AOper.mk (some 12)
                          (AOp.bin BinOp.add (Operand.tmp 11) (Operand.const (Value.int IntKind.i64 1)))
                          none [0],
                        AOper.mk (some 4) (AOp.mv (Operand.tmp 12)) none [1, 0, 1]]
def l45r6 : List AOper :=
  [AOper.mk (some 22) (AOp.mv (Operand.tmp 3)) none [],
                AOper.mk (some 2) (AOp.mv (Operand.tmp 22)) none [0, 0]]
def l45 : AFn :=
  (AFn.mk 23 1
    (ACode.seq
      (ACode.reg l45r0)
      (ACode.seq
        (ACode.reg l45r1)
        (ACode.seq
          (ACode.seq
            (ACode.reg l45r2)
            (ACode.block 0
              (ACode.loop
                (ACode.seq
                  (ACode.seq
                    (ACode.reg l45r3)
                    (ACode.cond (Operand.tmp 10) ACode.skip (ACode.exit 0)))
                  (ACode.seq
                    (ACode.block 1
                      (ACode.draw l45r4))
                    (ACode.reg l45r5))))))
          (ACode.seq
            (ACode.reg l45r6)
            ACode.ret))))
    [ARes.tmp 2])
theorem l45_eq : lowFn Try.prog 45 = some l45 := by kernel_rfl
def l46r0 : List AOper :=
  [AOper.mk (some 1) (AOp.box (Operand.tmp 0)) none [],
          AOper.mk (some 2) (AOp.mv (Operand.const (Value.slice none 0 0))) none []]
def l46r1 : List AOper :=
  [AOper.mk (some 5) (AOp.load true 3 (Operand.tmp 1)) none [],
            AOper.mk (some 6) (AOp.call 75 [Operand.tmp 5]) none [0],
            AOper.mk (some 7) (AOp.mkslice 1 [Value.int IntKind.i64 0] (Operand.tmp 6) (Operand.tmp 6)) none
              [1, 1],
            AOper.mk (some 3) (AOp.mv (Operand.tmp 7)) none [2, 1, 0, 1, 2]]
def l46r2 : List AOper :=
  [AOper.mk (some 8) (AOp.mv (Operand.tmp 3)) none [], AOper.mk (some 9) (AOp.len (Operand.tmp 8)) none [0],
                AOper.mk (some 10) (AOp.mv (Operand.const (Value.int IntKind.i64 0))) none []]
def l46r3 : List AOper :=
  [AOper.mk (some 11) (AOp.bin BinOp.lss (Operand.tmp 10) (Operand.tmp 9)) none []]
def l46r4 : List AOper :=
  [AOper.mk (some 12) (AOp.mv (Operand.tmp 10)) none [],
                              AOper.mk (some 4) (AOp.mv (Operand.tmp 12)) none [0, 0]]
def l46r5a : List AOper :=
  [AOper.mk (some 13) (AOp.mv (Operand.tmp 3)) none [], AOper.mk (some 14) (AOp.mv (Operand.tmp 4)) none [], AOper.mk (some 15) (AOp.load true 3 (Operand.tmp 1)) none [], AOper.mk (some 16) (AOp.fld 1 (Operand.tmp 1)) none [], AOper.mk (some 17) (AOp.load false 1 (Operand.tmp 16)) none [3], AOper.mk (some 18) (AOp.mv (Operand.tmp 4)) none [], AOper.mk (some 19) (AOp.call 81 [Operand.tmp 17, Operand.tmp 18]) none [4, 5], AOper.mk (some 20) (AOp.call 80 [Operand.tmp 15, Operand.tmp 19]) none [2, 6, 6]]
def l46r5b : List AOper :=
  [AOper.mk (some 21) (AOp.idxA 1 (Operand.tmp 13) (Operand.tmp 14)) none
                                [0, 1, 0, 1, 2, 3, 4, 5, 6, 7], AOper.mk none (AOp.store 1 (Operand.tmp 21) (Operand.tmp 20)) none
                                [8, 7, 7, 0, 1, 2, 3, 4, 5, 6, 7]]
def l46r5 : List AOper := l46r5a ++ l46r5b
def l46r6 : List AOper :=
  [AOper.mk (some 22)
                            (AOp.bin BinOp.add (Operand.tmp 10) (Operand.const (Value.int IntKind.i64 1)))
                            none [],
                          AOper.mk (some 10) (AOp.mv (Operand.tmp 22)) none [0]]
def l46r7 : List AOper :=
  [AOper.mk (some 23) (AOp.mv (Operand.tmp 3)) none [],
                AOper.mk (some 2) (AOp.mv (Operand.tmp 23)) none [0, 0]]
def l46 : AFn :=
  (AFn.mk 24 1
    (ACode.seq
      (ACode.reg l46r0)
      (ACode.seq
        (ACode.reg l46r1)
        (ACode.seq
          (ACode.seq
            (ACode.reg l46r2)
            (ACode.block 0
              (ACode.loop
                (ACode.seq (ACode.reg l46r3)
                  (ACode.seq (ACode.cond (Operand.tmp 11) ACode.skip (ACode.exit 0))
                    (ACode.seq
                      (ACode.block 1
                        (ACode.seq
                          (ACode.reg l46r4)
                          (ACode.draw l46r5)))
                      (ACode.reg l46r6)))))))
          (ACode.seq
            (ACode.reg l46r7)
            ACode.ret))))
    [ARes.tmp 2])
theorem l46_eq : lowFn Try.prog 46 = some l46 := by kernel_rfl
def l47r0 : List AOper :=
  [AOper.mk (some 4) (AOp.mv (Operand.const (Value.bool false))) none []]
def l47r1 : List AOper :=
  [AOper.mk (some 6) (AOp.mv (Operand.tmp 0)) none [], AOper.mk (some 7) (AOp.len (Operand.tmp 6)) none [0],
              AOper.mk (some 8) (AOp.mv (Operand.tmp 1)) none [], AOper.mk (some 9) (AOp.len (Operand.tmp 8)) none [2],
              AOper.mk (some 10) (AOp.bin BinOp.neq (Operand.tmp 7) (Operand.tmp 9)) none [1, 3]]
def l47r2 : List AOper :=
  [AOper.mk (some 4) (AOp.mv (Operand.const (Value.bool false))) none []]
def l47r3 : List AOper :=
  [AOper.mk (some 5) (AOp.mv (Operand.const (Value.int IntKind.i64 0))) none []]
def l47r4 : List AOper :=
  [AOper.mk (some 11) (AOp.mv (Operand.tmp 5)) none [],
                        AOper.mk (some 12) (AOp.mv (Operand.tmp 0)) none [],
                        AOper.mk (some 13) (AOp.len (Operand.tmp 12)) none [1],
                        AOper.mk (some 14) (AOp.bin BinOp.lss (Operand.tmp 11) (Operand.tmp 13)) none [0, 2]]
def l47r5a : List AOper :=
  [AOper.mk (some 17) (AOp.mv (Operand.tmp 0)) none [], AOper.mk (some 18) (AOp.mv (Operand.tmp 5)) none [], AOper.mk (some 19) (AOp.idxA 1 (Operand.tmp 17) (Operand.tmp 18)) none [0, 1], AOper.mk (some 20) (AOp.load false 1 (Operand.tmp 19)) none [2], AOper.mk (some 21) (AOp.mv (Operand.tmp 1)) none [], AOper.mk (some 22) (AOp.mv (Operand.tmp 5)) none [], AOper.mk (some 23) (AOp.idxA 1 (Operand.tmp 21) (Operand.tmp 22)) none [4, 5], AOper.mk (some 24) (AOp.load false 1 (Operand.tmp 23)) none [6]]
def l47r5b : List AOper :=
  [AOper.mk (some 25) (AOp.bin BinOp.neq (Operand.tmp 20) (Operand.tmp 24)) none [3, 7]]
def l47r5 : List AOper := l47r5a ++ l47r5b
def l47r6 : List AOper :=
  [AOper.mk (some 4) (AOp.mv (Operand.const (Value.bool false))) none []]
def l47r7 : List AOper :=
  [AOper.mk (some 15) (AOp.mv (Operand.tmp 5)) none [],
                        AOper.mk (some 16)
                          (AOp.bin BinOp.add (Operand.tmp 15) (Operand.const (Value.int IntKind.i64 1)))
                          none [0],
                        AOper.mk (some 5) (AOp.mv (Operand.tmp 16)) none [1, 0, 1]]
def l47r8 : List AOper :=
  [AOper.mk (some 4) (AOp.mv (Operand.const (Value.bool true))) none []]
def l47 : AFn :=
  (AFn.mk 26 2
    (ACode.seq (ACode.reg l47r0)
      (ACode.seq
        (ACode.seq
          (ACode.reg l47r1)
          (ACode.cond (Operand.tmp 10)
            (ACode.seq (ACode.reg l47r2) ACode.ret)
            ACode.skip))
        (ACode.seq
          (ACode.seq
            (ACode.reg l47r3)
            (ACode.block 0
              (ACode.loop
                (ACode.seq
                  (ACode.seq
                    (ACode.reg l47r4)
                    (ACode.cond (Operand.tmp 14) ACode.skip (ACode.exit 0)))
                  (ACode.seq
                    (ACode.block 1
                      (ACode.seq
                        (ACode.draw l47r5)
                        (ACode.cond (Operand.tmp 25)
                          (ACode.seq (ACode.reg l47r6)
                            ACode.ret)
                          ACode.skip)))
                    (ACode.reg l47r7))))))
          (ACode.seq (ACode.reg l47r8) ACode.ret))))
    [ARes.tmp 4])
theorem l47_eq : lowFn Try.prog 47 = some l47 := by kernel_rfl
def l48r0 : List AOper :=
  [AOper.mk (some 4) (AOp.mv (Operand.const (Value.bool false))) none []]
def l48r1 : List AOper :=
  [AOper.mk (some 6) (AOp.mv (Operand.tmp 0)) none [], AOper.mk (some 7) (AOp.len (Operand.tmp 6)) none [0],
              AOper.mk (some 8) (AOp.mv (Operand.tmp 1)) none [], AOper.mk (some 9) (AOp.len (Operand.tmp 8)) none [2],
              AOper.mk (some 10) (AOp.bin BinOp.neq (Operand.tmp 7) (Operand.tmp 9)) none [1, 3]]
def l48r2 : List AOper :=
  [AOper.mk (some 4) (AOp.mv (Operand.const (Value.bool false))) none []]
def l48r3 : List AOper :=
  [AOper.mk (some 11) (AOp.mv (Operand.tmp 0)) none [],
                AOper.mk (some 12) (AOp.len (Operand.tmp 11)) none [0],
                AOper.mk (some 13) (AOp.mv (Operand.const (Value.int IntKind.i64 0))) none []]
def l48r4 : List AOper :=
  [AOper.mk (some 14) (AOp.bin BinOp.lss (Operand.tmp 13) (Operand.tmp 12)) none []]
def l48r5 : List AOper :=
  [AOper.mk (some 15) (AOp.mv (Operand.tmp 13)) none [],
                              AOper.mk (some 5) (AOp.mv (Operand.tmp 15)) none [0, 0]]
def l48r6a : List AOper :=
  [AOper.mk (some 16) (AOp.mv (Operand.tmp 0)) none [], AOper.mk (some 17) (AOp.mv (Operand.tmp 5)) none [], AOper.mk (some 18) (AOp.idxA 1 (Operand.tmp 16) (Operand.tmp 17)) none [0, 1], AOper.mk (some 19) (AOp.load false 1 (Operand.tmp 18)) none [2], AOper.mk (some 20) (AOp.mv (Operand.tmp 1)) none [], AOper.mk (some 21) (AOp.mv (Operand.tmp 5)) none [], AOper.mk (some 22) (AOp.idxA 1 (Operand.tmp 20) (Operand.tmp 21)) none [4, 5], AOper.mk (some 23) (AOp.load false 1 (Operand.tmp 22)) none [6]]
def l48r6b : List AOper :=
  [AOper.mk (some 24) (AOp.bin BinOp.neq (Operand.tmp 19) (Operand.tmp 23)) none [3, 7]]
def l48r6 : List AOper := l48r6a ++ l48r6b
def l48r7 : List AOper :=
  [AOper.mk (some 4) (AOp.mv (Operand.const (Value.bool false))) none []]
def l48r8 : List AOper :=
  [AOper.mk (some 25)
                            (AOp.bin BinOp.add (Operand.tmp 13) (Operand.const (Value.int IntKind.i64 1)))
                            none [],
                          AOper.mk (some 13) (AOp.mv (Operand.tmp 25)) none [0]]
def l48r9 : List AOper :=
  [AOper.mk (some 4) (AOp.mv (Operand.const (Value.bool true))) none []]
def l48 : AFn :=
  (AFn.mk 26 2
    (ACode.seq (ACode.reg l48r0)
      (ACode.seq
        (ACode.seq
          (ACode.reg l48r1)
          (ACode.cond (Operand.tmp 10)
            (ACode.seq (ACode.reg l48r2) ACode.ret)
            ACode.skip))
        (ACode.seq
          (ACode.seq
            (ACode.reg l48r3)
            (ACode.block 0
              (ACode.loop
                (ACode.seq
                  (ACode.reg l48r4)
                  (ACode.seq (ACode.cond (Operand.tmp 14) ACode.skip (ACode.exit 0))
                    (ACode.seq
                      (ACode.block 1
                        (ACode.seq
                          (ACode.reg l48r5)
                          (ACode.seq
                            (ACode.draw l48r6)
                            (ACode.cond (Operand.tmp 24)
                              (ACode.seq
                                (ACode.reg l48r7)
                                ACode.ret)
                              ACode.skip))))
                      (ACode.reg l48r8)))))))
          (ACode.seq (ACode.reg l48r9) ACode.ret))))
    [ARes.tmp 4])
theorem l48_eq : lowFn Try.prog 48 = some l48 := by kernel_rfl
def l62r0 : List AOper :=
  [AOper.mk (some 6) (AOp.mv (Operand.const (Value.bool false))) none []]
def l62r1 : List AOper :=
  [AOper.mk (some 7) (AOp.mv (Operand.tmp 1)) none [], AOper.mk (some 8) (AOp.mv (Operand.tmp 0)) none [],
            AOper.mk (some 9) (AOp.bin BinOp.leq (Operand.tmp 7) (Operand.tmp 8)) none [0, 1],
            AOper.mk (some 10) (AOp.mv (Operand.tmp 9)) none [2],
            AOper.mk (some 11) (AOp.mv (Operand.tmp 0)) (some (10, true)) [3],
            AOper.mk (some 12) (AOp.mv (Operand.tmp 2)) (some (10, true)) [3],
            AOper.mk (some 13) (AOp.bin BinOp.leq (Operand.tmp 11) (Operand.tmp 12)) (some (10, true)) [4, 5, 3],
            AOper.mk (some 14) (AOp.pick (Operand.tmp 10) (Operand.tmp 13) (Operand.const (Value.bool false))) none
              [3, 6],
            AOper.mk (some 6) (AOp.mv (Operand.tmp 14)) none [7, 3, 0, 1, 2, 3, 4, 5, 6, 7]]
def l62 : AFn :=
  (AFn.mk 15 3
    (ACode.seq (ACode.reg l62r0)
      (ACode.seq
        (ACode.reg l62r1)
        ACode.ret))
    [ARes.tmp 6])
theorem l62_eq : lowFn Try.prog 62 = some l62 := by kernel_rfl
def l68r0 : List AOper :=
  [AOper.mk (some 2) (AOp.mv (Operand.const (Value.bool false))) none []]
def l68r1 : List AOper :=
  [AOper.mk (some 3) (AOp.mv (Operand.tmp 0)) none [], AOper.mk (some 4) (AOp.len (Operand.tmp 3)) none [0],
            AOper.mk (some 5) (AOp.bin BinOp.leq (Operand.tmp 4) (Operand.const (Value.int IntKind.i64 4)))
              none [1],
            AOper.mk (some 6) (AOp.mv (Operand.tmp 5)) none [2],
            AOper.mk (some 7) (AOp.mv (Operand.tmp 0)) (some (6, true)) [3],
            AOper.mk (some 8)
              (AOp.call 69
                [Operand.tmp 7, Operand.const (Value.int IntKind.i64 0),
                  Operand.const (Value.int IntKind.i64 60)])
              (some (6, true)) [4, 3, 3],
            AOper.mk (some 9) (AOp.pick (Operand.tmp 6) (Operand.tmp 8) (Operand.const (Value.bool false))) none [3, 5],
            AOper.mk (some 10) (AOp.mv (Operand.tmp 9)) none [6, 5],
            AOper.mk (some 11) (AOp.mv (Operand.tmp 0)) (some (10, true)) [7],
            AOper.mk (some 12) (AOp.call 70 [Operand.tmp 11]) (some (10, true)) [8, 7, 7],
            AOper.mk (some 13)
              (AOp.bin BinOp.leq (Operand.tmp 12) (Operand.const (Value.int IntKind.i64 60)))
              (some (10, true)) [9, 7],
            AOper.mk (some 14) (AOp.pick (Operand.tmp 10) (Operand.tmp 13) (Operand.const (Value.bool false))) none
              [7, 10],
            AOper.mk (some 2) (AOp.mv (Operand.tmp 14)) none [11, 9, 0, 1, 2, 3, 4, 5, 6, 7, 8, 9, 10, 11]]
def l68 : AFn :=
  (AFn.mk 15 1
    (ACode.seq (ACode.reg l68r0)
      (ACode.seq
        (ACode.reg l68r1)
        ACode.ret))
    [ARes.tmp 2])
theorem l68_eq : lowFn Try.prog 68 = some l68 := by kernel_rfl
def l69r0 : List AOper :=
  [AOper.mk (some 6) (AOp.mv (Operand.const (Value.bool false))) none []]
def l69r1 : List AOper :=
  [AOper.mk (some 7) (AOp.mv (Operand.const (Value.int IntKind.i64 0))) none []]
def l69r2 : List AOper :=
  [AOper.mk (some 8) (AOp.mv (Operand.tmp 7)) none [],
                      AOper.mk (some 9) (AOp.mv (Operand.tmp 0)) none [],
                      AOper.mk (some 10) (AOp.len (Operand.tmp 9)) none [1],
                      AOper.mk (some 11) (AOp.bin BinOp.lss (Operand.tmp 8) (Operand.tmp 10)) none [0, 2]]
def l69r3 : List AOper :=
  [AOper.mk (some 14) (AOp.mv (Operand.tmp 0)) none [],
                          AOper.mk (some 15) (AOp.mv (Operand.tmp 7)) none [],
                          AOper.mk (some 16) (AOp.idxA 1 (Operand.tmp 14) (Operand.tmp 15)) none [0, 1],
                          AOper.mk (some 17) (AOp.load false 1 (Operand.tmp 16)) none [2],
                          AOper.mk (some 18) (AOp.mv (Operand.tmp 1)) none [],
                          AOper.mk (some 19) (AOp.mv (Operand.tmp 2)) none [],
                          AOper.mk (some 20) (AOp.call 62 [Operand.tmp 17, Operand.tmp 18, Operand.tmp 19]) none
                            [3, 4, 5],
                          AOper.mk (some 21) (AOp.un UnOp.not (Operand.tmp 20)) none [6]]
def l69r4 : List AOper :=
  [AOper.mk (some 6) (AOp.mv (Operand.const (Value.bool false))) none []]
def l69r5 : List AOper :=
  [AOper.mk (some 12) (AOp.mv (Operand.tmp 7)) none [],
                      AOper.mk (some 13)
                        (AOp.bin BinOp.add (Operand.tmp 12) (Operand.const (Value.int IntKind.i64 1))) none
                        [0],
                      AOper.mk (some 7) (AOp.mv (Operand.tmp 13)) none [1, 0, 1]]
def l69r6 : List AOper :=
  [AOper.mk (some 6) (AOp.mv (Operand.const (Value.bool true))) none []]
def l69 : AFn :=
  (AFn.mk 22 3
    (ACode.seq (ACode.reg l69r0)
      (ACode.seq
        (ACode.seq
          (ACode.reg l69r1)
          (ACode.block 0
            (ACode.loop
              (ACode.seq
                (ACode.seq
                  (ACode.reg l69r2)
                  (ACode.cond (Operand.tmp 11) ACode.skip (ACode.exit 0)))
                (ACode.seq
                  (ACode.block 1
                    (ACode.seq
                      (ACode.reg l69r3)
                      (ACode.cond (Operand.tmp 21)
                        (ACode.seq (ACode.reg l69r4)
                          ACode.ret)
                        ACode.skip)))
                  (ACode.reg l69r5))))))
        (ACode.seq (ACode.reg l69r6) ACode.ret)))
    [ARes.tmp 6])
theorem l69_eq : lowFn Try.prog 69 = some l69 := by kernel_rfl
def l70r0 : List AOper :=
  [AOper.mk (some 2) (AOp.mv (Operand.const (Value.int IntKind.i64 0))) none []]
def l70r1 : List AOper :=
  [AOper.mk (some 3) (AOp.mv (Operand.const (Value.int IntKind.i64 1))) none []]
def l70r2 : List AOper :=
  [AOper.mk (some 4) (AOp.mv (Operand.const (Value.int IntKind.i64 0))) none []]
def l70r3 : List AOper :=
  [AOper.mk (some 5) (AOp.mv (Operand.tmp 4)) none [],
                        AOper.mk (some 6) (AOp.mv (Operand.tmp 0)) none [],
                        AOper.mk (some 7) (AOp.len (Operand.tmp 6)) none [1],
                        AOper.mk (some 8) (AOp.bin BinOp.lss (Operand.tmp 5) (Operand.tmp 7)) none [0, 2]]
def l70r4 : List AOper :=
  [AOper.mk (some 11) (AOp.mv (Operand.tmp 3)) none [],
                          AOper.mk (some 12) (AOp.mv (Operand.tmp 0)) none [],
                          AOper.mk (some 13) (AOp.mv (Operand.tmp 4)) none [],
                          AOper.mk (some 14) (AOp.idxA 1 (Operand.tmp 12) (Operand.tmp 13)) none [1, 2],
                          AOper.mk (some 15) (AOp.load false 1 (Operand.tmp 14)) none [3],
                          AOper.mk (some 16) (AOp.bin BinOp.mul (Operand.tmp 11) (Operand.tmp 15)) none [0, 4],
                          AOper.mk (some 3) (AOp.mv (Operand.tmp 16)) none [5, 0, 1, 2, 3, 4, 5]]
def l70r5 : List AOper :=
  [AOper.mk (some 9) (AOp.mv (Operand.tmp 4)) none [],
                        AOper.mk (some 10)
                          (AOp.bin BinOp.add (Operand.tmp 9) (Operand.const (Value.int IntKind.i64 1))) none
                          [0],
                        AOper.mk (some 4) (AOp.mv (Operand.tmp 10)) none [1, 0, 1]]
def l70r6 : List AOper :=
  [AOper.mk (some 17) (AOp.mv (Operand.tmp 3)) none [],
                AOper.mk (some 2) (AOp.mv (Operand.tmp 17)) none [0, 0]]
def l70 : AFn :=
  (AFn.mk 18 1
    (ACode.seq (ACode.reg l70r0)
      (ACode.seq (ACode.reg l70r1)
        (ACode.seq
          (ACode.seq
            (ACode.reg l70r2)
            (ACode.block 0
              (ACode.loop
                (ACode.seq
                  (ACode.seq
                    (ACode.reg l70r3)
                    (ACode.cond (Operand.tmp 8) ACode.skip (ACode.exit 0)))
                  (ACode.seq
                    (ACode.block 1
                      (ACode.reg l70r4))
                    (ACode.reg l70r5))))))
          (ACode.seq
            (ACode.reg l70r6)
            ACode.ret))))
    [ARes.tmp 2])
theorem l70_eq : lowFn Try.prog 70 = some l70 := by kernel_rfl
def l71r0 : List AOper :=
  [AOper.mk (some 2) (AOp.mv (Operand.const (Value.bool false))) none []]
def l71r1 : List AOper :=
  [AOper.mk (some 5) (AOp.mv (Operand.tmp 0)) none [], AOper.mk (some 6) (AOp.len (Operand.tmp 5)) none [0],
              AOper.mk (some 7)
                (AOp.bin BinOp.gtr (Operand.tmp 6) (Operand.const (Value.int IntKind.i64 4))) none [1]]
def l71r2 : List AOper :=
  [AOper.mk (some 2) (AOp.mv (Operand.const (Value.bool false))) none []]
def l71r3 : List AOper :=
  [AOper.mk (some 8) (AOp.mv (Operand.tmp 0)) none [], AOper.mk (some 9) (AOp.len (Operand.tmp 8)) none [0],
                AOper.mk (some 10) (AOp.mv (Operand.const (Value.int IntKind.i64 0))) none []]
def l71r4 : List AOper :=
  [AOper.mk (some 11) (AOp.bin BinOp.lss (Operand.tmp 10) (Operand.tmp 9)) none []]
def l71r5 : List AOper :=
  [AOper.mk (some 12) (AOp.idxA 1 (Operand.tmp 8) (Operand.tmp 10)) none [],
                              AOper.mk (some 13) (AOp.load false 1 (Operand.tmp 12)) none [0],
                              AOper.mk (some 4) (AOp.mv (Operand.tmp 13)) none [1, 0, 1]]
def l71r6 : List AOper :=
  [AOper.mk (some 14) (AOp.mv (Operand.tmp 4)) none [],
                                AOper.mk (some 15)
                                  (AOp.call 73 [Operand.tmp 14, Operand.const (Value.int IntKind.i64 60)])
                                  none [0],
                                AOper.mk (some 16) (AOp.un UnOp.not (Operand.tmp 15)) none [1]]
def l71r7 : List AOper :=
  [AOper.mk (some 2) (AOp.mv (Operand.const (Value.bool false))) none []]
def l71r8 : List AOper :=
  [AOper.mk (some 17)
                            (AOp.bin BinOp.add (Operand.tmp 10) (Operand.const (Value.int IntKind.i64 1)))
                            none [],
                          AOper.mk (some 10) (AOp.mv (Operand.tmp 17)) none [0]]
def l71r9 : List AOper :=
  [AOper.mk (some 18) (AOp.mv (Operand.tmp 0)) none [],
                AOper.mk (some 19) (AOp.call 76 [Operand.tmp 18]) none [0],
                AOper.mk (some 20)
                  (AOp.bin BinOp.leq (Operand.tmp 19) (Operand.const (Value.int IntKind.i64 60))) none [1],
                AOper.mk (some 2) (AOp.mv (Operand.tmp 20)) none [2, 1, 0, 1, 2]]
def l71 : AFn :=
  (AFn.mk 21 1
    (ACode.seq (ACode.reg l71r0)
      (ACode.seq
        (ACode.seq
          (ACode.reg l71r1)
          (ACode.cond (Operand.tmp 7)
            (ACode.seq (ACode.reg l71r2) ACode.ret)
            ACode.skip))
        (ACode.seq
          (ACode.seq
            (ACode.reg l71r3)
            (ACode.block 0
              (ACode.loop
                (ACode.seq (ACode.reg l71r4)
                  (ACode.seq (ACode.cond (Operand.tmp 11) ACode.skip (ACode.exit 0))
                    (ACode.seq
                      (ACode.block 1
                        (ACode.seq
                          (ACode.reg l71r5)
                          (ACode.seq
                            (ACode.reg l71r6)
                            (ACode.cond (Operand.tmp 16)
                              (ACode.seq
                                (ACode.reg l71r7)
                                ACode.ret)
                              ACode.skip))))
                      (ACode.reg l71r8)))))))
          (ACode.seq
            (ACode.reg l71r9)
            ACode.ret))))
    [ARes.tmp 2])
theorem l71_eq : lowFn Try.prog 71 = some l71 := by kernel_rfl
def l72r0 : List AOper :=
  [AOper.mk (some 4) (AOp.mv (Operand.const (Value.bool false))) none []]
def l72r1 : List AOper :=
  [AOper.mk (some 7) (AOp.mv (Operand.tmp 0)) none [], AOper.mk (some 8) (AOp.len (Operand.tmp 7)) none [0],
              AOper.mk (some 9) (AOp.mv (Operand.tmp 1)) none [],
              AOper.mk (some 10) (AOp.bin BinOp.neq (Operand.tmp 8) (Operand.tmp 9)) none [1, 2]]
def l72r2 : List AOper :=
  [AOper.mk (some 4) (AOp.mv (Operand.const (Value.bool false))) none []]
def l72r3 : List AOper :=
  [AOper.mk (some 11) (AOp.mv (Operand.tmp 0)) none [],
                AOper.mk (some 12) (AOp.len (Operand.tmp 11)) none [0],
                AOper.mk (some 13) (AOp.mv (Operand.const (Value.int IntKind.i64 0))) none []]
def l72r4 : List AOper :=
  [AOper.mk (some 14) (AOp.bin BinOp.lss (Operand.tmp 13) (Operand.tmp 12)) none []]
def l72r5 : List AOper :=
  [AOper.mk (some 15) (AOp.idxA 1 (Operand.tmp 11) (Operand.tmp 13)) none [],
                              AOper.mk (some 16) (AOp.load false 1 (Operand.tmp 15)) none [0],
                              AOper.mk (some 6) (AOp.mv (Operand.tmp 16)) none [1, 0, 1]]
def l72r6 : List AOper :=
  [AOper.mk (some 17) (AOp.mv (Operand.tmp 6)) none [],
                                AOper.mk (some 18)
                                  (AOp.call 92 [Operand.tmp 17, Operand.const (Value.int IntKind.i64 60)])
                                  none [0],
                                AOper.mk (some 19) (AOp.un UnOp.not (Operand.tmp 18)) none [1]]
def l72r7 : List AOper :=
  [AOper.mk (some 4) (AOp.mv (Operand.const (Value.bool false))) none []]
def l72r8 : List AOper :=
  [AOper.mk (some 20)
                            (AOp.bin BinOp.add (Operand.tmp 13) (Operand.const (Value.int IntKind.i64 1)))
                            none [],
                          AOper.mk (some 13) (AOp.mv (Operand.tmp 20)) none [0]]
def l72r9 : List AOper :=
  [AOper.mk (some 4) (AOp.mv (Operand.const (Value.bool true))) none []]
def l72 : AFn :=
  (AFn.mk 21 2
    (ACode.seq (ACode.reg l72r0)
      (ACode.seq
        (ACode.seq
          (ACode.reg l72r1)
          (ACode.cond (Operand.tmp 10)
            (ACode.seq (ACode.reg l72r2) ACode.ret)
            ACode.skip))
        (ACode.seq
          (ACode.seq
            (ACode.reg l72r3)
            (ACode.block 0
              (ACode.loop
                (ACode.seq
                  (ACode.reg l72r4)
                  (ACode.seq (ACode.cond (Operand.tmp 14) ACode.skip (ACode.exit 0))
                    (ACode.seq
                      (ACode.block 1
                        (ACode.seq
                          (ACode.reg l72r5)
                          (ACode.seq
                            (ACode.reg l72r6)
                            (ACode.cond (Operand.tmp 19)
                              (ACode.seq
                                (ACode.reg l72r7)
                                ACode.ret)
                              ACode.skip))))
                      (ACode.reg l72r8)))))))
          (ACode.seq (ACode.reg l72r9) ACode.ret))))
    [ARes.tmp 4])
theorem l72_eq : lowFn Try.prog 72 = some l72 := by kernel_rfl
def l73r0 : List AOper :=
  [AOper.mk (some 4) (AOp.mv (Operand.const (Value.bool false))) none []]
def l73r1 : List AOper :=
  [AOper.mk (some 5) (AOp.mv (Operand.tmp 0)) none [],
            AOper.mk (some 6) (AOp.bin BinOp.leq (Operand.const (Value.int IntKind.i64 0)) (Operand.tmp 5))
              none [0],
            AOper.mk (some 7) (AOp.mv (Operand.tmp 6)) none [1],
            AOper.mk (some 8) (AOp.mv (Operand.tmp 0)) (some (7, true)) [2],
            AOper.mk (some 9) (AOp.mv (Operand.tmp 1)) (some (7, true)) [2],
            AOper.mk (some 10) (AOp.bin BinOp.leq (Operand.tmp 8) (Operand.tmp 9)) (some (7, true)) [3, 4, 2],
            AOper.mk (some 11) (AOp.pick (Operand.tmp 7) (Operand.tmp 10) (Operand.const (Value.bool false))) none
              [2, 5],
            AOper.mk (some 4) (AOp.mv (Operand.tmp 11)) none [6, 2, 0, 1, 2, 3, 4, 5, 6]]
def l73 : AFn :=
  (AFn.mk 12 2
    (ACode.seq (ACode.reg l73r0)
      (ACode.seq
        (ACode.reg l73r1)
        ACode.ret))
    [ARes.tmp 4])
theorem l73_eq : lowFn Try.prog 73 = some l73 := by kernel_rfl
def l74r0 : List AOper :=
  [AOper.mk (some 1) (AOp.box (Operand.tmp 0)) none [],
          AOper.mk (some 2) (AOp.mv (Operand.const (Value.int IntKind.i64 0))) none [],
          AOper.mk (some 3) (AOp.mv (Operand.const (Value.int IntKind.i64 0))) none [1]]
def l74r1 : List AOper :=
  [AOper.mk (some 9) (AOp.load true 3 (Operand.tmp 1)) none [],
              AOper.mk (some 10) (AOp.call 75 [Operand.tmp 9]) none [0],
              AOper.mk (some 11)
                (AOp.bin BinOp.eql (Operand.tmp 10) (Operand.const (Value.int IntKind.i64 0))) none [1]]
def l74r2 : List AOper :=
  [AOper.mk (some 2) (AOp.mv (Operand.const (Value.int IntKind.i64 (-1)))) none [],
                  AOper.mk (some 3) (AOp.mv (Operand.const (Value.int IntKind.i64 (-1)))) none [0, 0]]
def l74r3a : List AOper :=
  [AOper.mk (some 12) (AOp.fld 0 (Operand.tmp 1)) none [], AOper.mk (some 13) (AOp.load false 1 (Operand.tmp 12)) none [0], AOper.mk (some 14) (AOp.fld 0 (Operand.tmp 1)) none [], AOper.mk (some 15) (AOp.load false 1 (Operand.tmp 14)) none [2], AOper.mk (some 4) (AOp.mv (Operand.tmp 13)) none [1, 0, 1]]
def l74r3b : List AOper :=
  [AOper.mk (some 5) (AOp.mv (Operand.tmp 15)) none [3, 4, 0, 1, 2, 3, 4]]
def l74r3 : List AOper := l74r3a ++ l74r3b
def l74r4 : List AOper :=
  [AOper.mk (some 16) (AOp.fld 2 (Operand.tmp 1)) none [],
                  AOper.mk (some 17) (AOp.load false 1 (Operand.tmp 16)) none [0],
                  AOper.mk (some 18) (AOp.len (Operand.tmp 17)) none [1],
                  AOper.mk (some 19) (AOp.mv (Operand.const (Value.int IntKind.i64 0))) none []]
def l74r5 : List AOper :=
  [AOper.mk (some 20) (AOp.bin BinOp.lss (Operand.tmp 19) (Operand.tmp 18)) none []]
def l74r6 : List AOper :=
  [AOper.mk (some 21) (AOp.mv (Operand.tmp 19)) none [],
                                AOper.mk (some 22) (AOp.idxA 1 (Operand.tmp 17) (Operand.tmp 19)) none [],
                                AOper.mk (some 23) (AOp.load false 1 (Operand.tmp 22)) none [1],
                                AOper.mk (some 6) (AOp.mv (Operand.tmp 21)) none [0, 0, 1, 2],
                                AOper.mk (some 7) (AOp.mv (Operand.tmp 23)) none [2, 3, 0, 1, 2, 3]]
def l74r7 : List AOper :=
  [AOper.mk (some 24) (AOp.fld 1 (Operand.tmp 1)) none [],
                                  AOper.mk (some 25) (AOp.load false 1 (Operand.tmp 24)) none [0],
                                  AOper.mk (some 26) (AOp.mv (Operand.tmp 6)) none [],
                                  AOper.mk (some 27) (AOp.idxA 1 (Operand.tmp 25) (Operand.tmp 26)) none [1, 2],
                                  AOper.mk (some 28) (AOp.load false 1 (Operand.tmp 27)) none [3],
                                  AOper.mk (some 29)
                                    (AOp.bin BinOp.sub (Operand.tmp 28)
                                      (Operand.const (Value.int IntKind.i64 1)))
                                    none [4],
                                  AOper.mk (some 30) (AOp.mv (Operand.tmp 7)) none [],
                                  AOper.mk (some 31) (AOp.bin BinOp.mul (Operand.tmp 29) (Operand.tmp 30)) none [5, 6],
                                  AOper.mk (some 8) (AOp.mv (Operand.tmp 31)) none [7, 0, 1, 2, 3, 4, 5, 6, 7]]
def l74r8 : List AOper :=
  [AOper.mk (some 32) (AOp.mv (Operand.tmp 4)) none [],
                                    AOper.mk (some 33) (AOp.mv (Operand.tmp 8)) none [],
                                    AOper.mk (some 34)
                                      (AOp.minmax false (Operand.tmp 33)
                                        (Operand.const (Value.int IntKind.i64 0)))
                                      none [1],
                                    AOper.mk (some 35) (AOp.bin BinOp.add (Operand.tmp 32) (Operand.tmp 34)) none
                                      [0, 2],
                                    AOper.mk (some 4) (AOp.mv (Operand.tmp 35)) none [3, 0, 1, 2, 3]]
def l74r9 : List AOper :=
  [AOper.mk (some 36) (AOp.mv (Operand.tmp 5)) none [],
                                    AOper.mk (some 37) (AOp.mv (Operand.tmp 8)) none [],
                                    AOper.mk (some 38)
                                      (AOp.minmax true (Operand.tmp 37)
                                        (Operand.const (Value.int IntKind.i64 0)))
                                      none [1],
                                    AOper.mk (some 39) (AOp.bin BinOp.add (Operand.tmp 36) (Operand.tmp 38)) none
                                      [0, 2],
                                    AOper.mk (some 5) (AOp.mv (Operand.tmp 39)) none [3, 0, 1, 2, 3]]
def l74r10 : List AOper :=
  [AOper.mk (some 40)
                              (AOp.bin BinOp.add (Operand.tmp 19) (Operand.const (Value.int IntKind.i64 1)))
                              none [],
                            AOper.mk (some 19) (AOp.mv (Operand.tmp 40)) none [0]]
def l74r11 : List AOper :=
  [AOper.mk (some 41) (AOp.mv (Operand.tmp 4)) none [],
                  AOper.mk (some 42) (AOp.mv (Operand.tmp 5)) none [],
                  AOper.mk (some 2) (AOp.mv (Operand.tmp 41)) none [0, 0],
                  AOper.mk (some 3) (AOp.mv (Operand.tmp 42)) none [1, 2, 0, 1, 2]]
def l74 : AFn :=
  (AFn.mk 43 1
    (ACode.seq
      (ACode.reg l74r0)
      (ACode.seq
        (ACode.seq
          (ACode.reg l74r1)
          (ACode.cond (Operand.tmp 11)
            (ACode.seq
              (ACode.reg l74r2)
              ACode.ret)
            ACode.skip))
        (ACode.seq
          (ACode.draw l74r3)
          (ACode.seq
            (ACode.seq
              (ACode.reg l74r4)
              (ACode.block 0
                (ACode.loop
                  (ACode.seq
                    (ACode.reg l74r5)
                    (ACode.seq (ACode.cond (Operand.tmp 20) ACode.skip (ACode.exit 0))
                      (ACode.seq
                        (ACode.block 1
                          (ACode.seq
                            (ACode.reg l74r6)
                            (ACode.seq
                              (ACode.reg l74r7)
                              (ACode.seq
                                (ACode.reg l74r8)
                                (ACode.reg l74r9)))))
                        (ACode.reg l74r10)))))))
            (ACode.seq
              (ACode.reg l74r11)
              ACode.ret)))))
    [ARes.tmp 2, ARes.tmp 3])
theorem l74_eq : lowFn Try.prog 74 = some l74 := by kernel_rfl
def l75r0 : List AOper :=
  [AOper.mk (some 1) (AOp.box (Operand.tmp 0)) none [],
          AOper.mk (some 2) (AOp.mv (Operand.const (Value.int IntKind.i64 0))) none []]
def l75r1 : List AOper :=
  [AOper.mk (some 3) (AOp.fld 1 (Operand.tmp 1)) none [],
            AOper.mk (some 4) (AOp.load false 1 (Operand.tmp 3)) none [0],
            AOper.mk (some 5) (AOp.call 76 [Operand.tmp 4]) none [1],
            AOper.mk (some 2) (AOp.mv (Operand.tmp 5)) none [2, 2, 0, 1, 2]]
def l75 : AFn :=
  (AFn.mk 6 1
    (ACode.seq
      (ACode.reg l75r0)
      (ACode.seq
        (ACode.reg l75r1)
        ACode.ret))
    [ARes.tmp 2])
theorem l75_eq : lowFn Try.prog 75 = some l75 := by kernel_rfl
def l76r0 : List AOper :=
  [AOper.mk (some 2) (AOp.mv (Operand.const (Value.int IntKind.i64 0))) none []]
def l76r1 : List AOper :=
  [AOper.mk (some 3) (AOp.mv (Operand.const (Value.int IntKind.i64 1))) none []]
def l76r2 : List AOper :=
  [AOper.mk (some 6) (AOp.mv (Operand.tmp 0)) none [], AOper.mk (some 7) (AOp.len (Operand.tmp 6)) none [0],
                AOper.mk (some 8) (AOp.mv (Operand.const (Value.int IntKind.i64 0))) none []]
def l76r3 : List AOper :=
  [AOper.mk (some 9) (AOp.bin BinOp.lss (Operand.tmp 8) (Operand.tmp 7)) none []]
def l76r4 : List AOper :=
  [AOper.mk (some 10) (AOp.idxA 1 (Operand.tmp 6) (Operand.tmp 8)) none [],
                              AOper.mk (some 11) (AOp.load false 1 (Operand.tmp 10)) none [0],
                              AOper.mk (some 5) (AOp.mv (Operand.tmp 11)) none [1, 0, 1]]
def l76r5 : List AOper :=
  [AOper.mk (some 12) (AOp.mv (Operand.tmp 3)) none [],
                              AOper.mk (some 13) (AOp.mv (Operand.tmp 5)) none [],
                              AOper.mk (some 14) (AOp.bin BinOp.mul (Operand.tmp 12) (Operand.tmp 13)) none [0, 1],
                              AOper.mk (some 3) (AOp.mv (Operand.tmp 14)) none [2, 0, 1, 2]]
def l76r6 : List AOper :=
  [AOper.mk (some 15)
                            (AOp.bin BinOp.add (Operand.tmp 8) (Operand.const (Value.int IntKind.i64 1)))
                            none [],
                          AOper.mk (some 8) (AOp.mv (Operand.tmp 15)) none [0]]
def l76r7 : List AOper :=
  [AOper.mk (some 16) (AOp.mv (Operand.tmp 3)) none [],
                AOper.mk (some 2) (AOp.mv (Operand.tmp 16)) none [0, 0]]
def l76 : AFn :=
  (AFn.mk 17 1
    (ACode.seq (ACode.reg l76r0)
      (ACode.seq (ACode.reg l76r1)
        (ACode.seq
          (ACode.seq
            (ACode.reg l76r2)
            (ACode.block 0
              (ACode.loop
                (ACode.seq (ACode.reg l76r3)
                  (ACode.seq (ACode.cond (Operand.tmp 9) ACode.skip (ACode.exit 0))
                    (ACode.seq
                      (ACode.block 1
                        (ACode.seq
                          (ACode.reg l76r4)
                          (ACode.reg l76r5)))
                      (ACode.reg l76r6)))))))
          (ACode.seq
            (ACode.reg l76r7)
            ACode.ret))))
    [ARes.tmp 2])
theorem l76_eq : lowFn Try.prog 76 = some l76 := by kernel_rfl
def l78r0 : List AOper :=
  [AOper.mk (some 2) (AOp.box (Operand.tmp 0)) none [],
          AOper.mk (some 4) (AOp.mv (Operand.const (Value.int IntKind.i64 0))) none []]
def l78r1 : List AOper :=
  [AOper.mk (some 7) (AOp.fld 0 (Operand.tmp 2)) none [],
            AOper.mk (some 8) (AOp.load false 1 (Operand.tmp 7)) none [0],
            AOper.mk (some 5) (AOp.mv (Operand.tmp 8)) none [1, 0, 1]]
def l78r2 : List AOper :=
  [AOper.mk (some 6) (AOp.mv (Operand.const (Value.int IntKind.i64 0))) none []]
def l78r3 : List AOper :=
  [AOper.mk (some 9) (AOp.mv (Operand.tmp 6)) none [],
                        AOper.mk (some 10) (AOp.mv (Operand.tmp 1)) none [],
                        AOper.mk (some 11) (AOp.len (Operand.tmp 10)) none [1],
                        AOper.mk (some 12) (AOp.bin BinOp.lss (Operand.tmp 9) (Operand.tmp 11)) none [0, 2]]
def l78r4a : List AOper :=
  [AOper.mk (some 15) (AOp.mv (Operand.tmp 5)) none [], AOper.mk (some 16) (AOp.mv (Operand.tmp 1)) none [], AOper.mk (some 17) (AOp.mv (Operand.tmp 6)) none [], AOper.mk (some 18) (AOp.idxA 1 (Operand.tmp 16) (Operand.tmp 17)) none [1, 2], AOper.mk (some 19) (AOp.load false 1 (Operand.tmp 18)) none [3], AOper.mk (some 20) (AOp.fld 2 (Operand.tmp 2)) none [], AOper.mk (some 21) (AOp.load false 1 (Operand.tmp 20)) none [5], AOper.mk (some 22) (AOp.mv (Operand.tmp 6)) none [], AOper.mk (some 23) (AOp.idxA 1 (Operand.tmp 21) (Operand.tmp 22)) none [6, 7], AOper.mk (some 24) (AOp.load false 1 (Operand.tmp 23)) none [8], AOper.mk (some 25) (AOp.bin BinOp.mul (Operand.tmp 19) (Operand.tmp 24)) none [4, 9]]
def l78r4b : List AOper :=
  [AOper.mk (some 26) (AOp.bin BinOp.add (Operand.tmp 15) (Operand.tmp 25)) none [0, 10], AOper.mk (some 5) (AOp.mv (Operand.tmp 26)) none [11, 0, 1, 2, 3, 4, 5, 6, 7, 8, 9, 10, 11]]
def l78r4 : List AOper := l78r4a ++ l78r4b
def l78r5 : List AOper :=
  [AOper.mk (some 13) (AOp.mv (Operand.tmp 6)) none [],
                        AOper.mk (some 14)
                          (AOp.bin BinOp.add (Operand.tmp 13) (Operand.const (Value.int IntKind.i64 1)))
                          none [0],
                        AOper.mk (some 6) (AOp.mv (Operand.tmp 14)) none [1, 0, 1]]
def l78r6 : List AOper :=
  [AOper.mk (some 27) (AOp.mv (Operand.tmp 5)) none [],
                AOper.mk (some 4) (AOp.mv (Operand.tmp 27)) none [0, 0]]
def l78 : AFn :=
  (AFn.mk 28 2
    (ACode.seq
      (ACode.reg l78r0)
      (ACode.seq
        (ACode.reg l78r1)
        (ACode.seq
          (ACode.seq
            (ACode.reg l78r2)
            (ACode.block 0
              (ACode.loop
                (ACode.seq
                  (ACode.seq
                    (ACode.reg l78r3)
                    (ACode.cond (Operand.tmp 12) ACode.skip (ACode.exit 0)))
                  (ACode.seq
                    (ACode.block 1
                      (ACode.draw l78r4))
                    (ACode.reg l78r5))))))
          (ACode.seq
            (ACode.reg l78r6)
            ACode.ret))))
    [ARes.tmp 4])
theorem l78_eq : lowFn Try.prog 78 = some l78 := by kernel_rfl
def l79r0 : List AOper :=
  [AOper.mk (some 4) (AOp.mv (Operand.const (Value.slice none 0 0))) none []]
def l79r1 : List AOper :=
  [AOper.mk (some 7) (AOp.mv (Operand.tmp 0)) none [], AOper.mk (some 8) (AOp.len (Operand.tmp 7)) none [0],
            AOper.mk (some 9) (AOp.mkslice 1 [Value.int IntKind.i64 0] (Operand.tmp 8) (Operand.tmp 8)) none
              [1, 1],
            AOper.mk (some 5) (AOp.mv (Operand.tmp 9)) none [2, 0, 1, 2]]
def l79r2 : List AOper :=
  [AOper.mk (some 10) (AOp.mv (Operand.tmp 0)) none [],
                AOper.mk (some 11) (AOp.len (Operand.tmp 10)) none [0],
                AOper.mk (some 12)
                  (AOp.bin BinOp.sub (Operand.tmp 11) (Operand.const (Value.int IntKind.i64 1))) none [1],
                AOper.mk (some 6) (AOp.mv (Operand.tmp 12)) none [2, 0, 1, 2]]
def l79r3 : List AOper :=
  [AOper.mk (some 13) (AOp.mv (Operand.tmp 6)) none [],
                        AOper.mk (some 14)
                          (AOp.bin BinOp.geq (Operand.tmp 13) (Operand.const (Value.int IntKind.i64 0)))
                          none [0]]
def l79r4 : List AOper :=
  [AOper.mk (some 17) (AOp.mv (Operand.tmp 5)) none [],
                            AOper.mk (some 18) (AOp.mv (Operand.tmp 6)) none [],
                            AOper.mk (some 19) (AOp.mv (Operand.tmp 1)) none [],
                            AOper.mk (some 20) (AOp.mv (Operand.tmp 0)) none [],
                            AOper.mk (some 21) (AOp.mv (Operand.tmp 6)) none [],
                            AOper.mk (some 22) (AOp.idxA 1 (Operand.tmp 20) (Operand.tmp 21)) none [3, 4],
                            AOper.mk (some 23) (AOp.load false 1 (Operand.tmp 22)) none [5],
                            AOper.mk (some 24) (AOp.bin BinOp.rem (Operand.tmp 19) (Operand.tmp 23)) none [2, 6],
                            AOper.mk (some 25) (AOp.idxA 1 (Operand.tmp 17) (Operand.tmp 18)) none
                              [0, 1, 0, 1, 2, 3, 4, 5, 6, 7],
                            AOper.mk none (AOp.store 1 (Operand.tmp 25) (Operand.tmp 24)) none
                              [8, 7, 0, 1, 2, 3, 4, 5, 6, 7]]
def l79r5 : List AOper :=
  [AOper.mk (some 26) (AOp.mv (Operand.tmp 1)) none [],
                            AOper.mk (some 27) (AOp.mv (Operand.tmp 0)) none [],
                            AOper.mk (some 28) (AOp.mv (Operand.tmp 6)) none [],
                            AOper.mk (some 29) (AOp.idxA 1 (Operand.tmp 27) (Operand.tmp 28)) none [1, 2],
                            AOper.mk (some 30) (AOp.load false 1 (Operand.tmp 29)) none [3],
                            AOper.mk (some 31) (AOp.bin BinOp.quo (Operand.tmp 26) (Operand.tmp 30)) none [0, 4],
                            AOper.mk (some 1) (AOp.mv (Operand.tmp 31)) none [5, 0, 1, 2, 3, 4, 5]]
def l79r6 : List AOper :=
  [AOper.mk (some 15) (AOp.mv (Operand.tmp 6)) none [],
                        AOper.mk (some 16)
                          (AOp.bin BinOp.sub (Operand.tmp 15) (Operand.const (Value.int IntKind.i64 1)))
                          none [0],
                        AOper.mk (some 6) (AOp.mv (Operand.tmp 16)) none [1, 0, 1]]
def l79r7 : List AOper :=
  [AOper.mk (some 32) (AOp.mv (Operand.tmp 5)) none [],
                AOper.mk (some 4) (AOp.mv (Operand.tmp 32)) none [0, 0]]
def l79 : AFn :=
  (AFn.mk 33 2
    (ACode.seq (ACode.reg l79r0)
      (ACode.seq
        (ACode.reg l79r1)
        (ACode.seq
          (ACode.seq
            (ACode.reg l79r2)
            (ACode.block 0
              (ACode.loop
                (ACode.seq
                  (ACode.seq
                    (ACode.reg l79r3)
                    (ACode.cond (Operand.tmp 14) ACode.skip (ACode.exit 0)))
                  (ACode.seq
                    (ACode.block 1
                      (ACode.seq
                        (ACode.reg l79r4)
                        (ACode.reg l79r5)))
                    (ACode.reg l79r6))))))
          (ACode.seq
            (ACode.reg l79r7)
            ACode.ret))))
    [ARes.tmp 4])
theorem l79_eq : lowFn Try.prog 79 = some l79 := by kernel_rfl
def l80r0 : List AOper :=
  [AOper.mk (some 2) (AOp.box (Operand.tmp 0)) none [], AOper.mk (some 3) (AOp.box (Operand.tmp 1)) none [],
          AOper.mk (some 4) (AOp.mv (Operand.const (Value.int IntKind.i64 0))) none []]
def l80r1a : List AOper :=
  [AOper.mk (some 5) (AOp.fld 0 (Operand.tmp 2)) none [], AOper.mk (some 6) (AOp.load false 1 (Operand.tmp 5)) none [0], AOper.mk (some 7) (AOp.load true 4 (Operand.tmp 3)) none [], AOper.mk (some 8) (AOp.fld 2 (Operand.tmp 2)) none [], AOper.mk (some 9) (AOp.load false 1 (Operand.tmp 8)) none [3], AOper.mk (some 10) (AOp.call 93 [Operand.tmp 7, Operand.tmp 9]) none [2, 4]]
def l80r1b : List AOper :=
  [AOper.mk (some 11) (AOp.bin BinOp.add (Operand.tmp 6) (Operand.tmp 10)) none [1, 5], AOper.mk (some 4) (AOp.mv (Operand.tmp 11)) none [6, 5, 0, 1, 2, 3, 4, 5, 6]]
def l80r1 : List AOper := l80r1a ++ l80r1b
def l80 : AFn :=
  (AFn.mk 12 2
    (ACode.seq
      (ACode.reg l80r0)
      (ACode.seq
        (ACode.draw l80r1)
        ACode.ret))
    [ARes.tmp 4])
theorem l80_eq : lowFn Try.prog 80 = some l80 := by kernel_rfl
def l81r0 : List AOper :=
  [AOper.mk (some 4)
            (AOp.alloc
              [Value.int IntKind.i64 0, Value.int IntKind.i64 0,
                Value.int IntKind.i64 0, Value.int IntKind.i64 0])
            none []]
def l81r1 : List AOper :=
  [AOper.mk (some 5)
              (AOp.alloc
                [Value.int IntKind.i64 0, Value.int IntKind.i64 0,
                  Value.int IntKind.i64 0, Value.int IntKind.i64 0])
              none []]
def l81r2 : List AOper :=
  [AOper.mk (some 7) (AOp.mv (Operand.tmp 0)) none [], AOper.mk (some 8) (AOp.len (Operand.tmp 7)) none [0],
                AOper.mk (some 9)
                  (AOp.bin BinOp.sub (Operand.tmp 8) (Operand.const (Value.int IntKind.i64 1))) none [1],
                AOper.mk (some 6) (AOp.mv (Operand.tmp 9)) none [2, 0, 1, 2]]
def l81r3 : List AOper :=
  [AOper.mk (some 10) (AOp.mv (Operand.tmp 6)) none [],
                        AOper.mk (some 11)
                          (AOp.bin BinOp.geq (Operand.tmp 10) (Operand.const (Value.int IntKind.i64 0)))
                          none [0]]
def l81r4 : List AOper :=
  [AOper.mk (some 14) (AOp.mv (Operand.tmp 6)) none [],
                            AOper.mk (some 15) (AOp.mv (Operand.tmp 1)) none [],
                            AOper.mk (some 16) (AOp.mv (Operand.tmp 0)) none [],
                            AOper.mk (some 17) (AOp.mv (Operand.tmp 6)) none [],
                            AOper.mk (some 18) (AOp.idxA 1 (Operand.tmp 16) (Operand.tmp 17)) none [2, 3],
                            AOper.mk (some 19) (AOp.load false 1 (Operand.tmp 18)) none [4],
                            AOper.mk (some 20) (AOp.bin BinOp.rem (Operand.tmp 15) (Operand.tmp 19)) none [1, 5],
                            AOper.mk (some 21) (AOp.idxP 1 4 (Operand.tmp 5) (Operand.tmp 14)) none
                              [0, 0, 1, 2, 3, 4, 5, 6],
                            AOper.mk none (AOp.store 1 (Operand.tmp 21) (Operand.tmp 20)) none
                              [7, 6, 0, 1, 2, 3, 4, 5, 6]]
def l81r5 : List AOper :=
  [AOper.mk (some 22) (AOp.mv (Operand.tmp 1)) none [],
                            AOper.mk (some 23) (AOp.mv (Operand.tmp 0)) none [],
                            AOper.mk (some 24) (AOp.mv (Operand.tmp 6)) none [],
                            AOper.mk (some 25) (AOp.idxA 1 (Operand.tmp 23) (Operand.tmp 24)) none [1, 2],
                            AOper.mk (some 26) (AOp.load false 1 (Operand.tmp 25)) none [3],
                            AOper.mk (some 27) (AOp.bin BinOp.quo (Operand.tmp 22) (Operand.tmp 26)) none [0, 4],
                            AOper.mk (some 1) (AOp.mv (Operand.tmp 27)) none [5, 0, 1, 2, 3, 4, 5]]
def l81r6 : List AOper :=
  [AOper.mk (some 12) (AOp.mv (Operand.tmp 6)) none [],
                        AOper.mk (some 13)
                          (AOp.bin BinOp.sub (Operand.tmp 12) (Operand.const (Value.int IntKind.i64 1)))
                          none [0],
                        AOper.mk (some 6) (AOp.mv (Operand.tmp 13)) none [1, 0, 1]]
def l81r7 : List AOper :=
  [AOper.mk (some 28) (AOp.load true 4 (Operand.tmp 5)) none [],
                AOper.mk none (AOp.store 4 (Operand.tmp 4) (Operand.tmp 28)) none [0, 0]]
def l81 : AFn :=
  (AFn.mk 29 2
    (ACode.seq
      (ACode.reg l81r0)
      (ACode.seq
        (ACode.reg l81r1)
        (ACode.seq
          (ACode.seq
            (ACode.reg l81r2)
            (ACode.block 0
              (ACode.loop
                (ACode.seq
                  (ACode.seq
                    (ACode.reg l81r3)
                    (ACode.cond (Operand.tmp 11) ACode.skip (ACode.exit 0)))
                  (ACode.seq
                    (ACode.block 1
                      (ACode.seq
                        (ACode.reg l81r4)
                        (ACode.reg l81r5)))
                    (ACode.reg l81r6))))))
          (ACode.seq
            (ACode.reg l81r7)
            ACode.ret))))
    [ARes.cell 4 true 4])
theorem l81_eq : lowFn Try.prog 81 = some l81 := by kernel_rfl
def l92r0 : List AOper :=
  [AOper.mk (some 4) (AOp.mv (Operand.const (Value.bool false))) none []]
def l92r1 : List AOper :=
  [AOper.mk (some 5) (AOp.mv (Operand.tmp 1)) none [],
            AOper.mk (some 6) (AOp.un UnOp.neg (Operand.tmp 5)) none [0],
            AOper.mk (some 7) (AOp.mv (Operand.tmp 0)) none [],
            AOper.mk (some 8) (AOp.bin BinOp.leq (Operand.tmp 6) (Operand.tmp 7)) none [1, 2],
            AOper.mk (some 9) (AOp.mv (Operand.tmp 8)) none [3],
            AOper.mk (some 10) (AOp.mv (Operand.tmp 0)) (some (9, true)) [4],
            AOper.mk (some 11) (AOp.mv (Operand.tmp 1)) (some (9, true)) [4],
            AOper.mk (some 12) (AOp.bin BinOp.leq (Operand.tmp 10) (Operand.tmp 11)) (some (9, true)) [5, 6, 4],
            AOper.mk (some 13) (AOp.pick (Operand.tmp 9) (Operand.tmp 12) (Operand.const (Value.bool false))) none
              [4, 7],
            AOper.mk (some 4) (AOp.mv (Operand.tmp 13)) none [8, 4, 0, 1, 2, 3, 4, 5, 6, 7, 8]]
def l92 : AFn :=
  (AFn.mk 14 2
    (ACode.seq (ACode.reg l92r0)
      (ACode.seq
        (ACode.reg l92r1)
        ACode.ret))
    [ARes.tmp 4])
theorem l92_eq : lowFn Try.prog 92 = some l92 := by kernel_rfl
def l93r0 : List AOper :=
  [AOper.mk (some 2) (AOp.box (Operand.tmp 0)) none [],
          AOper.mk (some 4) (AOp.mv (Operand.const (Value.int IntKind.i64 0))) none []]
def l93r1 : List AOper :=
  [AOper.mk (some 5) (AOp.mv (Operand.const (Value.int IntKind.i64 0))) none []]
def l93r2 : List AOper :=
  [AOper.mk (some 8) (AOp.mv (Operand.tmp 1)) none [], AOper.mk (some 9) (AOp.len (Operand.tmp 8)) none [0],
                AOper.mk (some 10) (AOp.mv (Operand.const (Value.int IntKind.i64 0))) none []]
def l93r3 : List AOper :=
  [AOper.mk (some 11) (AOp.bin BinOp.lss (Operand.tmp 10) (Operand.tmp 9)) none []]
def l93r4 : List AOper :=
  [AOper.mk (some 12) (AOp.mv (Operand.tmp 10)) none [],
                              AOper.mk (some 13) (AOp.idxA 1 (Operand.tmp 8) (Operand.tmp 10)) none [],
                              AOper.mk (some 14) (AOp.load false 1 (Operand.tmp 13)) none [1],
                              AOper.mk (some 6) (AOp.mv (Operand.tmp 12)) none [0, 0, 1, 2],
                              AOper.mk (some 7) (AOp.mv (Operand.tmp 14)) none [2, 3, 0, 1, 2, 3]]
def l93r5 : List AOper :=
  [AOper.mk (some 15) (AOp.mv (Operand.tmp 5)) none [],
                              AOper.mk (some 16) (AOp.mv (Operand.tmp 6)) none [],
                              AOper.mk (some 17) (AOp.idxP 1 4 (Operand.tmp 2) (Operand.tmp 16)) none [1],
                              AOper.mk (some 18) (AOp.load false 1 (Operand.tmp 17)) none [2],
                              AOper.mk (some 19) (AOp.mv (Operand.tmp 7)) none [],
                              AOper.mk (some 20) (AOp.bin BinOp.mul (Operand.tmp 18) (Operand.tmp 19)) none [3, 4],
                              AOper.mk (some 21) (AOp.bin BinOp.add (Operand.tmp 15) (Operand.tmp 20)) none [0, 5],
                              AOper.mk (some 5) (AOp.mv (Operand.tmp 21)) none [6, 0, 1, 2, 3, 4, 5, 6]]
def l93r6 : List AOper :=
  [AOper.mk (some 22)
                            (AOp.bin BinOp.add (Operand.tmp 10) (Operand.const (Value.int IntKind.i64 1)))
                            none [],
                          AOper.mk (some 10) (AOp.mv (Operand.tmp 22)) none [0]]
def l93r7 : List AOper :=
  [AOper.mk (some 23) (AOp.mv (Operand.tmp 5)) none [],
                AOper.mk (some 4) (AOp.mv (Operand.tmp 23)) none [0, 0]]
def l93 : AFn :=
  (AFn.mk 24 2
    (ACode.seq
      (ACode.reg l93r0)
      (ACode.seq (ACode.reg l93r1)
        (ACode.seq
          (ACode.seq
            (ACode.reg l93r2)
            (ACode.block 0
              (ACode.loop
                (ACode.seq (ACode.reg l93r3)
                  (ACode.seq (ACode.cond (Operand.tmp 11) ACode.skip (ACode.exit 0))
                    (ACode.seq
                      (ACode.block 1
                        (ACode.seq
                          (ACode.reg l93r4)
                          (ACode.reg l93r5)))
                      (ACode.reg l93r6)))))))
          (ACode.seq
            (ACode.reg l93r7)
            ACode.ret))))
    [ARes.tmp 4])
theorem l93_eq : lowFn Try.prog 93 = some l93 := by kernel_rfl
end Go.Proofs.Ytpccgeknhlekcaa
