/-
  The walks of layer 6's statements, as their frames call them.
-/
import Derived.Test.YtjgcaodicbikiaaDoorMacL1
import Derived.Test.YtjgcaodicbikiaaDoorMacL2
import Derived.Test.YtjgcaodicbikiaaDoorMacL3
import Derived.Test.YtjgcaodicbikiaaDoorMacL4
import Derived.Test.YtjgcaodicbikiaaDoorMacL5
import Derived.Test.YtjgcaodicbikiaaDoorMacM
import Derived.Test.YtjgcaodicbikiaaDoorMacO
namespace Go.Proofs.YtjgcaodicbikiaaDoor.S6
open Go.RowKit
theorem macSums_frame (w : World) (hk : M0.ok w) (a0 : Int) (_ : (Lit.int .i64 a0).wf = true) (A1 : Option Addr) (n1 c1 : Nat) (x1 : List UInt8) (r1 : Rd w A1 n1 c1 x1) (v2 : Value) (y2 : (Option Addr × Nat × Nat × List UInt8) × Int) (o2 : v2 = .agg #[.slice y2.1.1 y2.1.2.1 y2.1.2.2.1, .int .i64 y2.2] ∧ Rd w y2.1.1 y2.1.2.1 y2.1.2.2.1 y2.1.2.2.2) :
    Calls Tryd.prog 3 #[.int .i64 a0, .slice A1 n1 c1, v2] w fun e w' => e = .returned (.bool true) ∧ Below w.heap.size w w' := by
  obtain ⟨rfl, r2⟩ := o2
  exact macSums_walk M0 w hk a0 A1 n1 c1 x1 r1 _ _ _ _ r2 _
theorem macKeys_frame (w : World) (hk : M0.ok w) (a0 : Int) (w0 : (Lit.int .u8 a0).wf = true) (A1 : Option Addr) (n1 c1 : Nat) (x1 : List UInt8) (r1 : Rd w A1 n1 c1 x1) (v2 : Value) (y2 : (Option Addr × Nat × Nat × List UInt8) × Int) (o2 : v2 = .agg #[.slice y2.1.1 y2.1.2.1 y2.1.2.2.1, .int .i64 y2.2] ∧ Rd w y2.1.1 y2.1.2.1 y2.1.2.2.1 y2.1.2.2.2) :
    Calls Tryd.prog 4 #[.int .u8 a0, .slice A1 n1 c1, v2] w fun e w' => e = .returned (.bool true) ∧ Below w.heap.size w w' := by
  obtain ⟨rfl, r2⟩ := o2
  exact macKeys_walk M0 w hk a0 w0 A1 n1 c1 x1 r1 _ _ _ _ r2 _
theorem macParts_frame (w : World) (hk : M0.ok w) (a0 : Int) (w0 : (Lit.int .u8 a0).wf = true) (A1 : Option Addr) (n1 c1 : Nat) (x1 : List UInt8) (r1 : Rd w A1 n1 c1 x1) (a2 : Int) (w2 : (Lit.int .u8 a2).wf = true) :
    Calls Tryd.prog 5 #[.int .u8 a0, .slice A1 n1 c1, .int .u8 a2] w fun e w' => e = .returned (.bool true) ∧ Below w.heap.size w w' :=
  macParts_walk M0 w hk a0 w0 A1 n1 c1 x1 r1 a2 w2
theorem macKinds_frame (w : World) (hk : M0.ok w) (a0 : Int) (_ : (Lit.int .i64 a0).wf = true) (A1 : Option Addr) (n1 c1 : Nat) (x1 : List UInt8) (r1 : Rd w A1 n1 c1 x1) :
    Calls Tryd.prog 6 #[.int .i64 a0, .slice A1 n1 c1] w fun e w' => e = .returned (.bool true) ∧ Below w.heap.size w w' :=
  macKinds_walk M0 w hk a0 A1 n1 c1 x1 r1
theorem macTwice_frame (w : World) (hk : M0.ok w) (a0 : Int) (w0 : (Lit.int .u8 a0).wf = true) (A1 : Option Addr) (n1 c1 : Nat) (x1 : List UInt8) (r1 : Rd w A1 n1 c1 x1) (A2 : Option Addr) (n2 c2 : Nat) (x2 : List UInt8) (r2 : Rd w A2 n2 c2 x2) :
    Calls Tryd.prog 7 #[.int .u8 a0, .slice A1 n1 c1, .slice A2 n2 c2] w fun e w' => e = .returned (.bool true) ∧ Below w.heap.size w w' :=
  macTwice_walk M0 w hk a0 w0 A1 n1 c1 x1 r1 A2 n2 c2 x2 r2
end Go.Proofs.YtjgcaodicbikiaaDoor.S6
