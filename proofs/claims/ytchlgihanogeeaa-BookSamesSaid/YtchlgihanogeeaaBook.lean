/-
  A module as plain things, and how it reads in memory. Each statement bears its own conditions.
-/
import Derived.Test.YtchlgihanogeeaaData
import Derived.Deep.Slices
import Derived.ChangeSlices
import Derived.ChangeArms
import Derived.ProofKit
import Derived.OpenShut
import Derived.ChangeOld
namespace Go.Proofs.Ytchlgihanogeeaa
open Go.RowKit Go.ChangeShapes Go.WideShapes Go.ChangeAt
set_option linter.unusedVariables false
set_option linter.unusedSimpArgs false
theorem len1 {cs : List Value} (h : cs.length = 1) : ∃ u0 : Value, cs = [u0] := by
  match cs, h with
  | [u0], _ => exact ⟨_, rfl⟩
theorem len2 {cs : List Value} (h : cs.length = 2) : ∃ u0 u1 : Value, cs = [u0, u1] := by
  match cs, h with
  | [u0, u1], _ => exact ⟨_, _, rfl⟩
theorem len3 {cs : List Value} (h : cs.length = 3) : ∃ u0 u1 u2 : Value, cs = [u0, u1, u2] := by
  match cs, h with
  | [u0, u1, u2], _ => exact ⟨_, _, _, rfl⟩
theorem len4 {cs : List Value} (h : cs.length = 4) : ∃ u0 u1 u2 u3 : Value, cs = [u0, u1, u2, u3] := by
  match cs, h with
  | [u0, u1, u2, u3], _ => exact ⟨_, _, _, _, rfl⟩
theorem len5 {cs : List Value} (h : cs.length = 5) : ∃ u0 u1 u2 u3 u4 : Value, cs = [u0, u1, u2, u3, u4] := by
  match cs, h with
  | [u0, u1, u2, u3, u4], _ => exact ⟨_, _, _, _, _, rfl⟩
theorem len6 {cs : List Value} (h : cs.length = 6) : ∃ u0 u1 u2 u3 u4 u5 : Value, cs = [u0, u1, u2, u3, u4, u5] := by
  match cs, h with
  | [u0, u1, u2, u3, u4, u5], _ => exact ⟨_, _, _, _, _, _, rfl⟩
theorem len7 {cs : List Value} (h : cs.length = 7) : ∃ u0 u1 u2 u3 u4 u5 u6 : Value, cs = [u0, u1, u2, u3, u4, u5, u6] := by
  match cs, h with
  | [u0, u1, u2, u3, u4, u5, u6], _ => exact ⟨_, _, _, _, _, _, _, rfl⟩
theorem len8 {cs : List Value} (h : cs.length = 8) : ∃ u0 u1 u2 u3 u4 u5 u6 u7 : Value, cs = [u0, u1, u2, u3, u4, u5, u6, u7] := by
  match cs, h with
  | [u0, u1, u2, u3, u4, u5, u6, u7], _ => exact ⟨_, _, _, _, _, _, _, _, rfl⟩
theorem len13 {cs : List Value} (h : cs.length = 13) : ∃ u0 u1 u2 u3 u4 u5 u6 u7 u8 u9 u10 u11 u12 : Value, cs = [u0, u1, u2, u3, u4, u5, u6, u7, u8, u9, u10, u11, u12] := by
  match cs, h with
  | [u0, u1, u2, u3, u4, u5, u6, u7, u8, u9, u10, u11, u12], _ => exact ⟨_, _, _, _, _, _, _, _, _, _, _, _, _, rfl⟩
section
variable {H : Type} {enc : TypeId × Value → H} {P : Program} {W : World} {base : Nat} {held : Bool}
theorem field_of {t : TypeId} {fs : Array Field} {fuel : Nat} {cs : List Value} {x : DataW H × List MemPlace} (ht : P.underlying t = some (.struct fs)) (h : DataW.trod enc P W base (fun _ => true) held fuel t cs = some x) (hw : ∀ n ∈ x.1.weights P t, n ≤ reachBytes) :
    ∃ n', ∀ (j : Nat) (F : Field), fs[j]? = some F → ∃ y, DataW.trod enc P W base (fun _ => true) held n' F.type ((cs.drop F.offset).take (P.cellsOf F.type)) = some y ∧ ∀ n ∈ y.1.weights P F.type, n ≤ reachBytes := by
  obtain ⟨ys, n', _, hy, _, hyl, hf⟩ := DataW.trod_struct ht h
  refine ⟨n', fun j F hF => ?_⟩
  have hj : j < fs.size := (Array.getElem?_eq_some_iff.1 hF).1
  refine ⟨ys[j]'(by omega), by rw [hf j F hF]; exact List.getElem?_eq_getElem (by omega), fun z hz => hw z ?_⟩
  rw [hy]
  simp only [DataW.weights, ht]
  refine DataW.weights_mem_each (ts := fs.toList.map (·.type)) (j := j) (t := F.type) (d := (ys[j]'(by omega)).1) ?_ ?_ z hz
  · rw [List.getElem?_map, Array.getElem?_toList, hF]; rfl
  · rw [List.getElem?_map, List.getElem?_eq_getElem (by omega)]; rfl
end
section
variable {H : Type} {enc : TypeId × Value → H} {W : World} {base : Nat} {held : Bool}
structure MArea where
  qa : ByteArray
  qb : Int
  qc : Int
  qd : Bool
  qe : Bool
  qf : Bool
def MArea.cells (x : MArea) : List Value := [.string x.qa, .int .i64 x.qb, .int .i64 x.qc, .bool x.qd, .bool x.qe, .bool x.qf]
def RArea (x : MArea) (cs : List Value) : Prop := cs = x.cells ∧ x.qa.size ≤ maxLen
set_option maxHeartbeats 2000000 in
theorem open_Area (n : Nat) (cs : List Value) (y : DataW H × List MemPlace) (hl : cs.length = 6) (h : DataW.trod enc Try.prog W base (fun _ => true) held n 107 cs = some y) (hw : ∀ n ∈ y.1.weights Try.prog 107, n ≤ reachBytes) : ∃ x : MArea, RArea x cs := by
  obtain ⟨n', hf⟩ := field_of Try.underlying107 h hw
  obtain ⟨u0, u1, u2, u3, u4, u5, rfl⟩ := len6 hl
  obtain ⟨w0, g0, k0⟩ := hf 0 _ rfl
  replace g0 : DataW.trod enc Try.prog W base (fun _ => true) held n' 9 [u0] = some w0 := by simpa [show Try.prog.cellsOf 9 = 1 by kernel_rfl] using g0
  obtain ⟨z0, e0, _, hs0⟩ := DataW.trod_string Try.underlying9 g0
  injection e0 with e0
  subst e0
  obtain ⟨w1, g1, k1⟩ := hf 1 _ rfl
  replace g1 : DataW.trod enc Try.prog W base (fun _ => true) held n' 3 [u1] = some w1 := by simpa [show Try.prog.cellsOf 3 = 1 by kernel_rfl] using g1
  obtain ⟨z1, e1, _, _⟩ := DataW.trod_int Try.underlying3 g1
  injection e1 with e1
  subst e1
  obtain ⟨w2, g2, k2⟩ := hf 2 _ rfl
  replace g2 : DataW.trod enc Try.prog W base (fun _ => true) held n' 3 [u2] = some w2 := by simpa [show Try.prog.cellsOf 3 = 1 by kernel_rfl] using g2
  obtain ⟨z2, e2, _, _⟩ := DataW.trod_int Try.underlying3 g2
  injection e2 with e2
  subst e2
  obtain ⟨w3, g3, k3⟩ := hf 3 _ rfl
  replace g3 : DataW.trod enc Try.prog W base (fun _ => true) held n' 4 [u3] = some w3 := by simpa [show Try.prog.cellsOf 4 = 1 by kernel_rfl] using g3
  obtain ⟨z3, e3, _⟩ := DataW.trod_bool Try.underlying4 g3
  injection e3 with e3
  subst e3
  obtain ⟨w4, g4, k4⟩ := hf 4 _ rfl
  replace g4 : DataW.trod enc Try.prog W base (fun _ => true) held n' 4 [u4] = some w4 := by simpa [show Try.prog.cellsOf 4 = 1 by kernel_rfl] using g4
  obtain ⟨z4, e4, _⟩ := DataW.trod_bool Try.underlying4 g4
  injection e4 with e4
  subst e4
  obtain ⟨w5, g5, k5⟩ := hf 5 _ rfl
  replace g5 : DataW.trod enc Try.prog W base (fun _ => true) held n' 4 [u5] = some w5 := by simpa [show Try.prog.cellsOf 4 = 1 by kernel_rfl] using g5
  obtain ⟨z5, e5, _⟩ := DataW.trod_bool Try.underlying4 g5
  injection e5 with e5
  subst e5
  exact ⟨⟨z0, z1, z2, z3, z4, z5⟩, rfl, hs0⟩
structure MTask where
  qa : ByteArray
  qb : Int
  qc : Int
  qd : Int
  qe : Int
  qf : Int
  qg : Int
  qh : Int
def MTask.cells (x : MTask) : List Value := [.string x.qa, .int .i64 x.qb, .int .i64 x.qc, .int .i64 x.qd, .int .i64 x.qe, .int .i64 x.qf, .int .i64 x.qg, .int .i64 x.qh]
def RTask (x : MTask) (cs : List Value) : Prop := cs = x.cells ∧ x.qa.size ≤ maxLen
set_option maxHeartbeats 2000000 in
theorem open_Task (n : Nat) (cs : List Value) (y : DataW H × List MemPlace) (hl : cs.length = 8) (h : DataW.trod enc Try.prog W base (fun _ => true) held n 109 cs = some y) (hw : ∀ n ∈ y.1.weights Try.prog 109, n ≤ reachBytes) : ∃ x : MTask, RTask x cs := by
  obtain ⟨n', hf⟩ := field_of Try.underlying109 h hw
  obtain ⟨u0, u1, u2, u3, u4, u5, u6, u7, rfl⟩ := len8 hl
  obtain ⟨w0, g0, k0⟩ := hf 0 _ rfl
  replace g0 : DataW.trod enc Try.prog W base (fun _ => true) held n' 9 [u0] = some w0 := by simpa [show Try.prog.cellsOf 9 = 1 by kernel_rfl] using g0
  obtain ⟨z0, e0, _, hs0⟩ := DataW.trod_string Try.underlying9 g0
  injection e0 with e0
  subst e0
  obtain ⟨w1, g1, k1⟩ := hf 1 _ rfl
  replace g1 : DataW.trod enc Try.prog W base (fun _ => true) held n' 3 [u1] = some w1 := by simpa [show Try.prog.cellsOf 3 = 1 by kernel_rfl] using g1
  obtain ⟨z1, e1, _, _⟩ := DataW.trod_int Try.underlying3 g1
  injection e1 with e1
  subst e1
  obtain ⟨w2, g2, k2⟩ := hf 2 _ rfl
  replace g2 : DataW.trod enc Try.prog W base (fun _ => true) held n' 3 [u2] = some w2 := by simpa [show Try.prog.cellsOf 3 = 1 by kernel_rfl] using g2
  obtain ⟨z2, e2, _, _⟩ := DataW.trod_int Try.underlying3 g2
  injection e2 with e2
  subst e2
  obtain ⟨w3, g3, k3⟩ := hf 3 _ rfl
  replace g3 : DataW.trod enc Try.prog W base (fun _ => true) held n' 3 [u3] = some w3 := by simpa [show Try.prog.cellsOf 3 = 1 by kernel_rfl] using g3
  obtain ⟨z3, e3, _, _⟩ := DataW.trod_int Try.underlying3 g3
  injection e3 with e3
  subst e3
  obtain ⟨w4, g4, k4⟩ := hf 4 _ rfl
  replace g4 : DataW.trod enc Try.prog W base (fun _ => true) held n' 3 [u4] = some w4 := by simpa [show Try.prog.cellsOf 3 = 1 by kernel_rfl] using g4
  obtain ⟨z4, e4, _, _⟩ := DataW.trod_int Try.underlying3 g4
  injection e4 with e4
  subst e4
  obtain ⟨w5, g5, k5⟩ := hf 5 _ rfl
  replace g5 : DataW.trod enc Try.prog W base (fun _ => true) held n' 3 [u5] = some w5 := by simpa [show Try.prog.cellsOf 3 = 1 by kernel_rfl] using g5
  obtain ⟨z5, e5, _, _⟩ := DataW.trod_int Try.underlying3 g5
  injection e5 with e5
  subst e5
  obtain ⟨w6, g6, k6⟩ := hf 6 _ rfl
  replace g6 : DataW.trod enc Try.prog W base (fun _ => true) held n' 3 [u6] = some w6 := by simpa [show Try.prog.cellsOf 3 = 1 by kernel_rfl] using g6
  obtain ⟨z6, e6, _, _⟩ := DataW.trod_int Try.underlying3 g6
  injection e6 with e6
  subst e6
  obtain ⟨w7, g7, k7⟩ := hf 7 _ rfl
  replace g7 : DataW.trod enc Try.prog W base (fun _ => true) held n' 3 [u7] = some w7 := by simpa [show Try.prog.cellsOf 3 = 1 by kernel_rfl] using g7
  obtain ⟨z7, e7, _, _⟩ := DataW.trod_int Try.underlying3 g7
  injection e7 with e7
  subst e7
  exact ⟨⟨z0, z1, z2, z3, z4, z5, z6, z7⟩, rfl, hs0⟩
structure MLock where
  qa : ByteArray
  qb : Int
def MLock.cells (x : MLock) : List Value := [.string x.qa, .int .i64 x.qb]
def RLock (x : MLock) (cs : List Value) : Prop := cs = x.cells ∧ x.qa.size ≤ maxLen
set_option maxHeartbeats 2000000 in
theorem open_Lock (n : Nat) (cs : List Value) (y : DataW H × List MemPlace) (hl : cs.length = 2) (h : DataW.trod enc Try.prog W base (fun _ => true) held n 111 cs = some y) (hw : ∀ n ∈ y.1.weights Try.prog 111, n ≤ reachBytes) : ∃ x : MLock, RLock x cs := by
  obtain ⟨n', hf⟩ := field_of Try.underlying111 h hw
  obtain ⟨u0, u1, rfl⟩ := len2 hl
  obtain ⟨w0, g0, k0⟩ := hf 0 _ rfl
  replace g0 : DataW.trod enc Try.prog W base (fun _ => true) held n' 9 [u0] = some w0 := by simpa [show Try.prog.cellsOf 9 = 1 by kernel_rfl] using g0
  obtain ⟨z0, e0, _, hs0⟩ := DataW.trod_string Try.underlying9 g0
  injection e0 with e0
  subst e0
  obtain ⟨w1, g1, k1⟩ := hf 1 _ rfl
  replace g1 : DataW.trod enc Try.prog W base (fun _ => true) held n' 3 [u1] = some w1 := by simpa [show Try.prog.cellsOf 3 = 1 by kernel_rfl] using g1
  obtain ⟨z1, e1, _, _⟩ := DataW.trod_int Try.underlying3 g1
  injection e1 with e1
  subst e1
  exact ⟨⟨z0, z1⟩, rfl, hs0⟩
structure MSema where
  qa : ByteArray
  qb : Int
  qc : Int
  qd : Bool
def MSema.cells (x : MSema) : List Value := [.string x.qa, .int .i64 x.qb, .int .i64 x.qc, .bool x.qd]
def RSema (x : MSema) (cs : List Value) : Prop := cs = x.cells ∧ x.qa.size ≤ maxLen
set_option maxHeartbeats 2000000 in
theorem open_Sema (n : Nat) (cs : List Value) (y : DataW H × List MemPlace) (hl : cs.length = 4) (h : DataW.trod enc Try.prog W base (fun _ => true) held n 113 cs = some y) (hw : ∀ n ∈ y.1.weights Try.prog 113, n ≤ reachBytes) : ∃ x : MSema, RSema x cs := by
  obtain ⟨n', hf⟩ := field_of Try.underlying113 h hw
  obtain ⟨u0, u1, u2, u3, rfl⟩ := len4 hl
  obtain ⟨w0, g0, k0⟩ := hf 0 _ rfl
  replace g0 : DataW.trod enc Try.prog W base (fun _ => true) held n' 9 [u0] = some w0 := by simpa [show Try.prog.cellsOf 9 = 1 by kernel_rfl] using g0
  obtain ⟨z0, e0, _, hs0⟩ := DataW.trod_string Try.underlying9 g0
  injection e0 with e0
  subst e0
  obtain ⟨w1, g1, k1⟩ := hf 1 _ rfl
  replace g1 : DataW.trod enc Try.prog W base (fun _ => true) held n' 3 [u1] = some w1 := by simpa [show Try.prog.cellsOf 3 = 1 by kernel_rfl] using g1
  obtain ⟨z1, e1, _, _⟩ := DataW.trod_int Try.underlying3 g1
  injection e1 with e1
  subst e1
  obtain ⟨w2, g2, k2⟩ := hf 2 _ rfl
  replace g2 : DataW.trod enc Try.prog W base (fun _ => true) held n' 3 [u2] = some w2 := by simpa [show Try.prog.cellsOf 3 = 1 by kernel_rfl] using g2
  obtain ⟨z2, e2, _, _⟩ := DataW.trod_int Try.underlying3 g2
  injection e2 with e2
  subst e2
  obtain ⟨w3, g3, k3⟩ := hf 3 _ rfl
  replace g3 : DataW.trod enc Try.prog W base (fun _ => true) held n' 4 [u3] = some w3 := by simpa [show Try.prog.cellsOf 4 = 1 by kernel_rfl] using g3
  obtain ⟨z3, e3, _⟩ := DataW.trod_bool Try.underlying4 g3
  injection e3 with e3
  subst e3
  exact ⟨⟨z0, z1, z2, z3⟩, rfl, hs0⟩
structure MEvent where
  qa : ByteArray
def MEvent.cells (x : MEvent) : List Value := [.string x.qa]
def REvent (x : MEvent) (cs : List Value) : Prop := cs = x.cells ∧ x.qa.size ≤ maxLen
set_option maxHeartbeats 2000000 in
theorem open_Event (n : Nat) (cs : List Value) (y : DataW H × List MemPlace) (hl : cs.length = 1) (h : DataW.trod enc Try.prog W base (fun _ => true) held n 115 cs = some y) (hw : ∀ n ∈ y.1.weights Try.prog 115, n ≤ reachBytes) : ∃ x : MEvent, REvent x cs := by
  obtain ⟨n', hf⟩ := field_of Try.underlying115 h hw
  obtain ⟨u0, rfl⟩ := len1 hl
  obtain ⟨w0, g0, k0⟩ := hf 0 _ rfl
  replace g0 : DataW.trod enc Try.prog W base (fun _ => true) held n' 9 [u0] = some w0 := by simpa [show Try.prog.cellsOf 9 = 1 by kernel_rfl] using g0
  obtain ⟨z0, e0, _, hs0⟩ := DataW.trod_string Try.underlying9 g0
  injection e0 with e0
  subst e0
  exact ⟨⟨z0⟩, rfl, hs0⟩
structure MBoard where
  qa : ByteArray
  qb : Int
def MBoard.cells (x : MBoard) : List Value := [.string x.qa, .int .i64 x.qb]
def RBoard (x : MBoard) (cs : List Value) : Prop := cs = x.cells ∧ x.qa.size ≤ maxLen
set_option maxHeartbeats 2000000 in
theorem open_Board (n : Nat) (cs : List Value) (y : DataW H × List MemPlace) (hl : cs.length = 2) (h : DataW.trod enc Try.prog W base (fun _ => true) held n 117 cs = some y) (hw : ∀ n ∈ y.1.weights Try.prog 117, n ≤ reachBytes) : ∃ x : MBoard, RBoard x cs := by
  obtain ⟨n', hf⟩ := field_of Try.underlying117 h hw
  obtain ⟨u0, u1, rfl⟩ := len2 hl
  obtain ⟨w0, g0, k0⟩ := hf 0 _ rfl
  replace g0 : DataW.trod enc Try.prog W base (fun _ => true) held n' 9 [u0] = some w0 := by simpa [show Try.prog.cellsOf 9 = 1 by kernel_rfl] using g0
  obtain ⟨z0, e0, _, hs0⟩ := DataW.trod_string Try.underlying9 g0
  injection e0 with e0
  subst e0
  obtain ⟨w1, g1, k1⟩ := hf 1 _ rfl
  replace g1 : DataW.trod enc Try.prog W base (fun _ => true) held n' 3 [u1] = some w1 := by simpa [show Try.prog.cellsOf 3 = 1 by kernel_rfl] using g1
  obtain ⟨z1, e1, _, _⟩ := DataW.trod_int Try.underlying3 g1
  injection e1 with e1
  subst e1
  exact ⟨⟨z0, z1⟩, rfl, hs0⟩
structure MBuffer where
  qa : ByteArray
  qb : Int
  qc : Int
  qd : Bool
def MBuffer.cells (x : MBuffer) : List Value := [.string x.qa, .int .i64 x.qb, .int .i64 x.qc, .bool x.qd]
def RBuffer (x : MBuffer) (cs : List Value) : Prop := cs = x.cells ∧ x.qa.size ≤ maxLen
set_option maxHeartbeats 2000000 in
theorem open_Buffer (n : Nat) (cs : List Value) (y : DataW H × List MemPlace) (hl : cs.length = 4) (h : DataW.trod enc Try.prog W base (fun _ => true) held n 119 cs = some y) (hw : ∀ n ∈ y.1.weights Try.prog 119, n ≤ reachBytes) : ∃ x : MBuffer, RBuffer x cs := by
  obtain ⟨n', hf⟩ := field_of Try.underlying119 h hw
  obtain ⟨u0, u1, u2, u3, rfl⟩ := len4 hl
  obtain ⟨w0, g0, k0⟩ := hf 0 _ rfl
  replace g0 : DataW.trod enc Try.prog W base (fun _ => true) held n' 9 [u0] = some w0 := by simpa [show Try.prog.cellsOf 9 = 1 by kernel_rfl] using g0
  obtain ⟨z0, e0, _, hs0⟩ := DataW.trod_string Try.underlying9 g0
  injection e0 with e0
  subst e0
  obtain ⟨w1, g1, k1⟩ := hf 1 _ rfl
  replace g1 : DataW.trod enc Try.prog W base (fun _ => true) held n' 3 [u1] = some w1 := by simpa [show Try.prog.cellsOf 3 = 1 by kernel_rfl] using g1
  obtain ⟨z1, e1, _, _⟩ := DataW.trod_int Try.underlying3 g1
  injection e1 with e1
  subst e1
  obtain ⟨w2, g2, k2⟩ := hf 2 _ rfl
  replace g2 : DataW.trod enc Try.prog W base (fun _ => true) held n' 3 [u2] = some w2 := by simpa [show Try.prog.cellsOf 3 = 1 by kernel_rfl] using g2
  obtain ⟨z2, e2, _, _⟩ := DataW.trod_int Try.underlying3 g2
  injection e2 with e2
  subst e2
  obtain ⟨w3, g3, k3⟩ := hf 3 _ rfl
  replace g3 : DataW.trod enc Try.prog W base (fun _ => true) held n' 4 [u3] = some w3 := by simpa [show Try.prog.cellsOf 4 = 1 by kernel_rfl] using g3
  obtain ⟨z3, e3, _⟩ := DataW.trod_bool Try.underlying4 g3
  injection e3 with e3
  subst e3
  exact ⟨⟨z0, z1, z2, z3⟩, rfl, hs0⟩
structure MPort where
  qa : ByteArray
  qb : Bool
  qc : Bool
  qd : Int
  qe : Int
  qf : Int
def MPort.cells (x : MPort) : List Value := [.string x.qa, .bool x.qb, .bool x.qc, .int .i64 x.qd, .int .i64 x.qe, .int .i64 x.qf]
def RPort (x : MPort) (cs : List Value) : Prop := cs = x.cells ∧ x.qa.size ≤ maxLen
set_option maxHeartbeats 2000000 in
theorem open_Port (n : Nat) (cs : List Value) (y : DataW H × List MemPlace) (hl : cs.length = 6) (h : DataW.trod enc Try.prog W base (fun _ => true) held n 57 cs = some y) (hw : ∀ n ∈ y.1.weights Try.prog 57, n ≤ reachBytes) : ∃ x : MPort, RPort x cs := by
  obtain ⟨n', hf⟩ := field_of Try.underlying57 h hw
  obtain ⟨u0, u1, u2, u3, u4, u5, rfl⟩ := len6 hl
  obtain ⟨w0, g0, k0⟩ := hf 0 _ rfl
  replace g0 : DataW.trod enc Try.prog W base (fun _ => true) held n' 9 [u0] = some w0 := by simpa [show Try.prog.cellsOf 9 = 1 by kernel_rfl] using g0
  obtain ⟨z0, e0, _, hs0⟩ := DataW.trod_string Try.underlying9 g0
  injection e0 with e0
  subst e0
  obtain ⟨w1, g1, k1⟩ := hf 1 _ rfl
  replace g1 : DataW.trod enc Try.prog W base (fun _ => true) held n' 4 [u1] = some w1 := by simpa [show Try.prog.cellsOf 4 = 1 by kernel_rfl] using g1
  obtain ⟨z1, e1, _⟩ := DataW.trod_bool Try.underlying4 g1
  injection e1 with e1
  subst e1
  obtain ⟨w2, g2, k2⟩ := hf 2 _ rfl
  replace g2 : DataW.trod enc Try.prog W base (fun _ => true) held n' 4 [u2] = some w2 := by simpa [show Try.prog.cellsOf 4 = 1 by kernel_rfl] using g2
  obtain ⟨z2, e2, _⟩ := DataW.trod_bool Try.underlying4 g2
  injection e2 with e2
  subst e2
  obtain ⟨w3, g3, k3⟩ := hf 3 _ rfl
  replace g3 : DataW.trod enc Try.prog W base (fun _ => true) held n' 3 [u3] = some w3 := by simpa [show Try.prog.cellsOf 3 = 1 by kernel_rfl] using g3
  obtain ⟨z3, e3, _, _⟩ := DataW.trod_int Try.underlying3 g3
  injection e3 with e3
  subst e3
  obtain ⟨w4, g4, k4⟩ := hf 4 _ rfl
  replace g4 : DataW.trod enc Try.prog W base (fun _ => true) held n' 3 [u4] = some w4 := by simpa [show Try.prog.cellsOf 3 = 1 by kernel_rfl] using g4
  obtain ⟨z4, e4, _, _⟩ := DataW.trod_int Try.underlying3 g4
  injection e4 with e4
  subst e4
  obtain ⟨w5, g5, k5⟩ := hf 5 _ rfl
  replace g5 : DataW.trod enc Try.prog W base (fun _ => true) held n' 3 [u5] = some w5 := by simpa [show Try.prog.cellsOf 3 = 1 by kernel_rfl] using g5
  obtain ⟨z5, e5, _, _⟩ := DataW.trod_int Try.underlying3 g5
  injection e5 with e5
  subst e5
  exact ⟨⟨z0, z1, z2, z3, z4, z5⟩, rfl, hs0⟩
structure MRule where
  qa : Int
  qb : Int
  qc : Int
def MRule.cells (x : MRule) : List Value := [.int .i64 x.qa, .int .i64 x.qb, .int .i64 x.qc]
def RRule (x : MRule) (cs : List Value) : Prop := cs = x.cells ∧ True
set_option maxHeartbeats 2000000 in
theorem open_Rule (n : Nat) (cs : List Value) (y : DataW H × List MemPlace) (hl : cs.length = 3) (h : DataW.trod enc Try.prog W base (fun _ => true) held n 80 cs = some y) (hw : ∀ n ∈ y.1.weights Try.prog 80, n ≤ reachBytes) : ∃ x : MRule, RRule x cs := by
  obtain ⟨n', hf⟩ := field_of Try.underlying80 h hw
  obtain ⟨u0, u1, u2, rfl⟩ := len3 hl
  obtain ⟨w0, g0, k0⟩ := hf 0 _ rfl
  replace g0 : DataW.trod enc Try.prog W base (fun _ => true) held n' 3 [u0] = some w0 := by simpa [show Try.prog.cellsOf 3 = 1 by kernel_rfl] using g0
  obtain ⟨z0, e0, _, _⟩ := DataW.trod_int Try.underlying3 g0
  injection e0 with e0
  subst e0
  obtain ⟨w1, g1, k1⟩ := hf 1 _ rfl
  replace g1 : DataW.trod enc Try.prog W base (fun _ => true) held n' 3 [u1] = some w1 := by simpa [show Try.prog.cellsOf 3 = 1 by kernel_rfl] using g1
  obtain ⟨z1, e1, _, _⟩ := DataW.trod_int Try.underlying3 g1
  injection e1 with e1
  subst e1
  obtain ⟨w2, g2, k2⟩ := hf 2 _ rfl
  replace g2 : DataW.trod enc Try.prog W base (fun _ => true) held n' 3 [u2] = some w2 := by simpa [show Try.prog.cellsOf 3 = 1 by kernel_rfl] using g2
  obtain ⟨z2, e2, _, _⟩ := DataW.trod_int Try.underlying3 g2
  injection e2 with e2
  subst e2
  exact ⟨⟨z0, z1, z2⟩, rfl, trivial⟩
structure MWindow where
  qa : Int
  qb : Int
  qc : Int
def MWindow.cells (x : MWindow) : List Value := [.int .i64 x.qa, .int .i64 x.qb, .int .i64 x.qc]
def RWindow (x : MWindow) (cs : List Value) : Prop := cs = x.cells ∧ True
set_option maxHeartbeats 2000000 in
theorem open_Window (n : Nat) (cs : List Value) (y : DataW H × List MemPlace) (hl : cs.length = 3) (h : DataW.trod enc Try.prog W base (fun _ => true) held n 84 cs = some y) (hw : ∀ n ∈ y.1.weights Try.prog 84, n ≤ reachBytes) : ∃ x : MWindow, RWindow x cs := by
  obtain ⟨n', hf⟩ := field_of Try.underlying84 h hw
  obtain ⟨u0, u1, u2, rfl⟩ := len3 hl
  obtain ⟨w0, g0, k0⟩ := hf 0 _ rfl
  replace g0 : DataW.trod enc Try.prog W base (fun _ => true) held n' 3 [u0] = some w0 := by simpa [show Try.prog.cellsOf 3 = 1 by kernel_rfl] using g0
  obtain ⟨z0, e0, _, _⟩ := DataW.trod_int Try.underlying3 g0
  injection e0 with e0
  subst e0
  obtain ⟨w1, g1, k1⟩ := hf 1 _ rfl
  replace g1 : DataW.trod enc Try.prog W base (fun _ => true) held n' 3 [u1] = some w1 := by simpa [show Try.prog.cellsOf 3 = 1 by kernel_rfl] using g1
  obtain ⟨z1, e1, _, _⟩ := DataW.trod_int Try.underlying3 g1
  injection e1 with e1
  subst e1
  obtain ⟨w2, g2, k2⟩ := hf 2 _ rfl
  replace g2 : DataW.trod enc Try.prog W base (fun _ => true) held n' 3 [u2] = some w2 := by simpa [show Try.prog.cellsOf 3 = 1 by kernel_rfl] using g2
  obtain ⟨z2, e2, _, _⟩ := DataW.trod_int Try.underlying3 g2
  injection e2 with e2
  subst e2
  exact ⟨⟨z0, z1, z2⟩, rfl, trivial⟩
structure MEnd where
  qa : Int
  qb : Int
def MEnd.cells (x : MEnd) : List Value := [.int .i64 x.qa, .int .i64 x.qb]
def REnd (x : MEnd) (cs : List Value) : Prop := cs = x.cells ∧ True
set_option maxHeartbeats 2000000 in
theorem open_End (n : Nat) (cs : List Value) (y : DataW H × List MemPlace) (hl : cs.length = 2) (h : DataW.trod enc Try.prog W base (fun _ => true) held n 69 cs = some y) (hw : ∀ n ∈ y.1.weights Try.prog 69, n ≤ reachBytes) : ∃ x : MEnd, REnd x cs := by
  obtain ⟨n', hf⟩ := field_of Try.underlying69 h hw
  obtain ⟨u0, u1, rfl⟩ := len2 hl
  obtain ⟨w0, g0, k0⟩ := hf 0 _ rfl
  replace g0 : DataW.trod enc Try.prog W base (fun _ => true) held n' 3 [u0] = some w0 := by simpa [show Try.prog.cellsOf 3 = 1 by kernel_rfl] using g0
  obtain ⟨z0, e0, _, _⟩ := DataW.trod_int Try.underlying3 g0
  injection e0 with e0
  subst e0
  obtain ⟨w1, g1, k1⟩ := hf 1 _ rfl
  replace g1 : DataW.trod enc Try.prog W base (fun _ => true) held n' 3 [u1] = some w1 := by simpa [show Try.prog.cellsOf 3 = 1 by kernel_rfl] using g1
  obtain ⟨z1, e1, _, _⟩ := DataW.trod_int Try.underlying3 g1
  injection e1 with e1
  subst e1
  exact ⟨⟨z0, z1⟩, rfl, trivial⟩
structure MLink where
  qa : ByteArray
  qb : Int
  qc : Int
def MLink.cells (x : MLink) : List Value := [.string x.qa, .int .i64 x.qb, .int .i64 x.qc]
def RLink (x : MLink) (cs : List Value) : Prop := cs = x.cells ∧ x.qa.size ≤ maxLen
set_option maxHeartbeats 2000000 in
theorem open_Link (n : Nat) (cs : List Value) (y : DataW H × List MemPlace) (hl : cs.length = 3) (h : DataW.trod enc Try.prog W base (fun _ => true) held n 76 cs = some y) (hw : ∀ n ∈ y.1.weights Try.prog 76, n ≤ reachBytes) : ∃ x : MLink, RLink x cs := by
  obtain ⟨n', hf⟩ := field_of Try.underlying76 h hw
  obtain ⟨u0, u1, u2, rfl⟩ := len3 hl
  obtain ⟨w0, g0, k0⟩ := hf 0 _ rfl
  replace g0 : DataW.trod enc Try.prog W base (fun _ => true) held n' 9 [u0] = some w0 := by simpa [show Try.prog.cellsOf 9 = 1 by kernel_rfl] using g0
  obtain ⟨z0, e0, _, hs0⟩ := DataW.trod_string Try.underlying9 g0
  injection e0 with e0
  subst e0
  obtain ⟨w1, g1, k1⟩ := hf 1 _ rfl
  replace g1 : DataW.trod enc Try.prog W base (fun _ => true) held n' 3 [u1] = some w1 := by simpa [show Try.prog.cellsOf 3 = 1 by kernel_rfl] using g1
  obtain ⟨z1, e1, _, _⟩ := DataW.trod_int Try.underlying3 g1
  injection e1 with e1
  subst e1
  obtain ⟨w2, g2, k2⟩ := hf 2 _ rfl
  replace g2 : DataW.trod enc Try.prog W base (fun _ => true) held n' 3 [u2] = some w2 := by simpa [show Try.prog.cellsOf 3 = 1 by kernel_rfl] using g2
  obtain ⟨z2, e2, _, _⟩ := DataW.trod_int Try.underlying3 g2
  injection e2 with e2
  subst e2
  exact ⟨⟨z0, z1, z2⟩, rfl, hs0⟩
structure MBudget where
  qa : Int
  qb : Int
def MBudget.cells (x : MBudget) : List Value := [.int .i64 x.qa, .int .i64 x.qb]
def RBudget (x : MBudget) (cs : List Value) : Prop := cs = x.cells ∧ True
set_option maxHeartbeats 2000000 in
theorem open_Budget (n : Nat) (cs : List Value) (y : DataW H × List MemPlace) (hl : cs.length = 2) (h : DataW.trod enc Try.prog W base (fun _ => true) held n 50 cs = some y) (hw : ∀ n ∈ y.1.weights Try.prog 50, n ≤ reachBytes) : ∃ x : MBudget, RBudget x cs := by
  obtain ⟨n', hf⟩ := field_of Try.underlying50 h hw
  obtain ⟨u0, u1, rfl⟩ := len2 hl
  obtain ⟨w0, g0, k0⟩ := hf 0 _ rfl
  replace g0 : DataW.trod enc Try.prog W base (fun _ => true) held n' 3 [u0] = some w0 := by simpa [show Try.prog.cellsOf 3 = 1 by kernel_rfl] using g0
  obtain ⟨z0, e0, _, _⟩ := DataW.trod_int Try.underlying3 g0
  injection e0 with e0
  subst e0
  obtain ⟨w1, g1, k1⟩ := hf 1 _ rfl
  replace g1 : DataW.trod enc Try.prog W base (fun _ => true) held n' 3 [u1] = some w1 := by simpa [show Try.prog.cellsOf 3 = 1 by kernel_rfl] using g1
  obtain ⟨z1, e1, _, _⟩ := DataW.trod_int Try.underlying3 g1
  injection e1 with e1
  subst e1
  exact ⟨⟨z0, z1⟩, rfl, trivial⟩
structure MSchedule where
  qa : ByteArray
  qb : Int
  qc : List MWindow
def RSchedule (w : World) (x : MSchedule) (cs : List Value) : Prop := ∃ vqc : Value, cs = [.string x.qa, .int .i64 x.qb, vqc] ∧ x.qa.size ≤ maxLen ∧ Row w 3 RWindow vqc x.qc
theorem RSchedule.below {w w' : World} {x : MSchedule} {cs : List Value} (h : RSchedule w x cs) (hB : Below w.heap.size w w') : RSchedule w' x cs := by
  obtain ⟨vqc, e, hs, hqc⟩ := h
  exact ⟨vqc, e, hs, hqc.below hB⟩
set_option maxHeartbeats 2000000 in
theorem open_Schedule (n : Nat) (cs : List Value) (y : DataW H × List MemPlace) (hl : cs.length = 3) (h : DataW.trod enc Try.prog W base (fun _ => true) held n 65 cs = some y) (hw : ∀ n ∈ y.1.weights Try.prog 65, n ≤ reachBytes) : ∃ x : MSchedule, RSchedule W x cs := by
  obtain ⟨n', hf⟩ := field_of Try.underlying65 h hw
  obtain ⟨u0, u1, u2, rfl⟩ := len3 hl
  obtain ⟨w0, g0, k0⟩ := hf 0 _ rfl
  replace g0 : DataW.trod enc Try.prog W base (fun _ => true) held n' 9 [u0] = some w0 := by simpa [show Try.prog.cellsOf 9 = 1 by kernel_rfl] using g0
  obtain ⟨z0, e0, _, hs0⟩ := DataW.trod_string Try.underlying9 g0
  injection e0 with e0
  subst e0
  obtain ⟨w1, g1, k1⟩ := hf 1 _ rfl
  replace g1 : DataW.trod enc Try.prog W base (fun _ => true) held n' 3 [u1] = some w1 := by simpa [show Try.prog.cellsOf 3 = 1 by kernel_rfl] using g1
  obtain ⟨z1, e1, _, _⟩ := DataW.trod_int Try.underlying3 g1
  injection e1 with e1
  subst e1
  obtain ⟨w2, g2, k2⟩ := hf 2 _ rfl
  replace g2 : DataW.trod enc Try.prog W base (fun _ => true) held n' 63 [u2] = some w2 := by simpa [show Try.prog.cellsOf 63 = 1 by kernel_rfl] using g2
  obtain ⟨v2, z2, e2, hr2⟩ := row_of (R := RWindow) (k := 3) Try.underlying63 (by kernel_rfl) (by decide) (of_decide_eq_true (by kernel_rfl)) (fun n cs y h1 h2 h3 => open_Window n cs y h1 h2 h3) g2 k2
  injection e2 with e2
  subst e2
  exact ⟨⟨z0, z1, z2⟩, _, rfl, hs0, hr2⟩
structure MChannel where
  qa : Int
  qb : Int
  qc : List MEnd
def RChannel (w : World) (x : MChannel) (cs : List Value) : Prop := ∃ vqc : Value, cs = [.int .i64 x.qa, .int .i64 x.qb, vqc] ∧ Row w 2 REnd vqc x.qc
theorem RChannel.below {w w' : World} {x : MChannel} {cs : List Value} (h : RChannel w x cs) (hB : Below w.heap.size w w') : RChannel w' x cs := by
  obtain ⟨vqc, e, hqc⟩ := h
  exact ⟨vqc, e, hqc.below hB⟩
set_option maxHeartbeats 2000000 in
theorem open_Channel (n : Nat) (cs : List Value) (y : DataW H × List MemPlace) (hl : cs.length = 3) (h : DataW.trod enc Try.prog W base (fun _ => true) held n 72 cs = some y) (hw : ∀ n ∈ y.1.weights Try.prog 72, n ≤ reachBytes) : ∃ x : MChannel, RChannel W x cs := by
  obtain ⟨n', hf⟩ := field_of Try.underlying72 h hw
  obtain ⟨u0, u1, u2, rfl⟩ := len3 hl
  obtain ⟨w0, g0, k0⟩ := hf 0 _ rfl
  replace g0 : DataW.trod enc Try.prog W base (fun _ => true) held n' 69 [u0, u1] = some w0 := by simpa [show Try.prog.cellsOf 69 = 2 by kernel_rfl] using g0
  obtain ⟨z0, hz0⟩ := open_End n' _ w0 (by rfl) g0 k0
  simp only [REnd, MEnd.cells, List.cons.injEq, and_true] at hz0
  obtain ⟨rfl, rfl⟩ := hz0
  obtain ⟨w1, g1, k1⟩ := hf 1 _ rfl
  replace g1 : DataW.trod enc Try.prog W base (fun _ => true) held n' 70 [u2] = some w1 := by simpa [show Try.prog.cellsOf 70 = 1 by kernel_rfl] using g1
  obtain ⟨v1, z1, e1, hr1⟩ := row_of (R := REnd) (k := 2) Try.underlying70 (by kernel_rfl) (by decide) (of_decide_eq_true (by kernel_rfl)) (fun n cs y h1 h2 h3 => open_End n cs y h1 h2 h3) g1 k1
  injection e1 with e1
  subst e1
  exact ⟨⟨z0.qa, z0.qb, z1⟩, _, rfl, hr1⟩
structure MPartition where
  qa : ByteArray
  qb : List MArea
  qc : List MTask
  qd : List MLock
  qe : List MSema
  qf : List MEvent
  qg : List MBoard
  qh : List MBuffer
  qi : List MPort
  qj : List MRule
  qk : Int
  ql : Int
  qm : Int
def RPartition (w : World) (x : MPartition) (cs : List Value) : Prop := ∃ vqb vqc vqd vqe vqf vqg vqh vqi vqj : Value, cs = [.string x.qa, vqb, vqc, vqd, vqe, vqf, vqg, vqh, vqi, vqj, .int .i64 x.qk, .int .i64 x.ql, .int .i64 x.qm] ∧ x.qa.size ≤ maxLen ∧ Row w 6 RArea vqb x.qb ∧ Row w 8 RTask vqc x.qc ∧ Row w 2 RLock vqd x.qd ∧ Row w 4 RSema vqe x.qe ∧ Row w 1 REvent vqf x.qf ∧ Row w 2 RBoard vqg x.qg ∧ Row w 4 RBuffer vqh x.qh ∧ Row w 6 RPort vqi x.qi ∧ Row w 3 RRule vqj x.qj
theorem RPartition.below {w w' : World} {x : MPartition} {cs : List Value} (h : RPartition w x cs) (hB : Below w.heap.size w w') : RPartition w' x cs := by
  obtain ⟨vqb, vqc, vqd, vqe, vqf, vqg, vqh, vqi, vqj, e, hs, hqb, hqc, hqd, hqe, hqf, hqg, hqh, hqi, hqj⟩ := h
  exact ⟨vqb, vqc, vqd, vqe, vqf, vqg, vqh, vqi, vqj, e, hs, hqb.below hB, hqc.below hB, hqd.below hB, hqe.below hB, hqf.below hB, hqg.below hB, hqh.below hB, hqi.below hB, hqj.below hB⟩
set_option maxHeartbeats 2000000 in
theorem open_Partition (n : Nat) (cs : List Value) (y : DataW H × List MemPlace) (hl : cs.length = 13) (h : DataW.trod enc Try.prog W base (fun _ => true) held n 52 cs = some y) (hw : ∀ n ∈ y.1.weights Try.prog 52, n ≤ reachBytes) : ∃ x : MPartition, RPartition W x cs := by
  obtain ⟨n', hf⟩ := field_of Try.underlying52 h hw
  obtain ⟨u0, u1, u2, u3, u4, u5, u6, u7, u8, u9, u10, u11, u12, rfl⟩ := len13 hl
  obtain ⟨w0, g0, k0⟩ := hf 0 _ rfl
  replace g0 : DataW.trod enc Try.prog W base (fun _ => true) held n' 9 [u0] = some w0 := by simpa [show Try.prog.cellsOf 9 = 1 by kernel_rfl] using g0
  obtain ⟨z0, e0, _, hs0⟩ := DataW.trod_string Try.underlying9 g0
  injection e0 with e0
  subst e0
  obtain ⟨w1, g1, k1⟩ := hf 1 _ rfl
  replace g1 : DataW.trod enc Try.prog W base (fun _ => true) held n' 41 [u1] = some w1 := by simpa [show Try.prog.cellsOf 41 = 1 by kernel_rfl] using g1
  obtain ⟨v1, z1, e1, hr1⟩ := row_of (R := RArea) (k := 6) Try.underlying41 (by kernel_rfl) (by decide) (of_decide_eq_true (by kernel_rfl)) (fun n cs y h1 h2 h3 => open_Area n cs y h1 h2 h3) g1 k1
  injection e1 with e1
  subst e1
  obtain ⟨w2, g2, k2⟩ := hf 2 _ rfl
  replace g2 : DataW.trod enc Try.prog W base (fun _ => true) held n' 42 [u2] = some w2 := by simpa [show Try.prog.cellsOf 42 = 1 by kernel_rfl] using g2
  obtain ⟨v2, z2, e2, hr2⟩ := row_of (R := RTask) (k := 8) Try.underlying42 (by kernel_rfl) (by decide) (of_decide_eq_true (by kernel_rfl)) (fun n cs y h1 h2 h3 => open_Task n cs y h1 h2 h3) g2 k2
  injection e2 with e2
  subst e2
  obtain ⟨w3, g3, k3⟩ := hf 3 _ rfl
  replace g3 : DataW.trod enc Try.prog W base (fun _ => true) held n' 43 [u3] = some w3 := by simpa [show Try.prog.cellsOf 43 = 1 by kernel_rfl] using g3
  obtain ⟨v3, z3, e3, hr3⟩ := row_of (R := RLock) (k := 2) Try.underlying43 (by kernel_rfl) (by decide) (of_decide_eq_true (by kernel_rfl)) (fun n cs y h1 h2 h3 => open_Lock n cs y h1 h2 h3) g3 k3
  injection e3 with e3
  subst e3
  obtain ⟨w4, g4, k4⟩ := hf 4 _ rfl
  replace g4 : DataW.trod enc Try.prog W base (fun _ => true) held n' 44 [u4] = some w4 := by simpa [show Try.prog.cellsOf 44 = 1 by kernel_rfl] using g4
  obtain ⟨v4, z4, e4, hr4⟩ := row_of (R := RSema) (k := 4) Try.underlying44 (by kernel_rfl) (by decide) (of_decide_eq_true (by kernel_rfl)) (fun n cs y h1 h2 h3 => open_Sema n cs y h1 h2 h3) g4 k4
  injection e4 with e4
  subst e4
  obtain ⟨w5, g5, k5⟩ := hf 5 _ rfl
  replace g5 : DataW.trod enc Try.prog W base (fun _ => true) held n' 45 [u5] = some w5 := by simpa [show Try.prog.cellsOf 45 = 1 by kernel_rfl] using g5
  obtain ⟨v5, z5, e5, hr5⟩ := row_of (R := REvent) (k := 1) Try.underlying45 (by kernel_rfl) (by decide) (of_decide_eq_true (by kernel_rfl)) (fun n cs y h1 h2 h3 => open_Event n cs y h1 h2 h3) g5 k5
  injection e5 with e5
  subst e5
  obtain ⟨w6, g6, k6⟩ := hf 6 _ rfl
  replace g6 : DataW.trod enc Try.prog W base (fun _ => true) held n' 46 [u6] = some w6 := by simpa [show Try.prog.cellsOf 46 = 1 by kernel_rfl] using g6
  obtain ⟨v6, z6, e6, hr6⟩ := row_of (R := RBoard) (k := 2) Try.underlying46 (by kernel_rfl) (by decide) (of_decide_eq_true (by kernel_rfl)) (fun n cs y h1 h2 h3 => open_Board n cs y h1 h2 h3) g6 k6
  injection e6 with e6
  subst e6
  obtain ⟨w7, g7, k7⟩ := hf 7 _ rfl
  replace g7 : DataW.trod enc Try.prog W base (fun _ => true) held n' 47 [u7] = some w7 := by simpa [show Try.prog.cellsOf 47 = 1 by kernel_rfl] using g7
  obtain ⟨v7, z7, e7, hr7⟩ := row_of (R := RBuffer) (k := 4) Try.underlying47 (by kernel_rfl) (by decide) (of_decide_eq_true (by kernel_rfl)) (fun n cs y h1 h2 h3 => open_Buffer n cs y h1 h2 h3) g7 k7
  injection e7 with e7
  subst e7
  obtain ⟨w8, g8, k8⟩ := hf 8 _ rfl
  replace g8 : DataW.trod enc Try.prog W base (fun _ => true) held n' 48 [u8] = some w8 := by simpa [show Try.prog.cellsOf 48 = 1 by kernel_rfl] using g8
  obtain ⟨v8, z8, e8, hr8⟩ := row_of (R := RPort) (k := 6) Try.underlying48 (by kernel_rfl) (by decide) (of_decide_eq_true (by kernel_rfl)) (fun n cs y h1 h2 h3 => open_Port n cs y h1 h2 h3) g8 k8
  injection e8 with e8
  subst e8
  obtain ⟨w9, g9, k9⟩ := hf 9 _ rfl
  replace g9 : DataW.trod enc Try.prog W base (fun _ => true) held n' 28 [u9] = some w9 := by simpa [show Try.prog.cellsOf 28 = 1 by kernel_rfl] using g9
  obtain ⟨v9, z9, e9, hr9⟩ := row_of (R := RRule) (k := 3) Try.underlying28 (by kernel_rfl) (by decide) (of_decide_eq_true (by kernel_rfl)) (fun n cs y h1 h2 h3 => open_Rule n cs y h1 h2 h3) g9 k9
  injection e9 with e9
  subst e9
  obtain ⟨w10, g10, k10⟩ := hf 10 _ rfl
  replace g10 : DataW.trod enc Try.prog W base (fun _ => true) held n' 3 [u10] = some w10 := by simpa [show Try.prog.cellsOf 3 = 1 by kernel_rfl] using g10
  obtain ⟨z10, e10, _, _⟩ := DataW.trod_int Try.underlying3 g10
  injection e10 with e10
  subst e10
  obtain ⟨w11, g11, k11⟩ := hf 11 _ rfl
  replace g11 : DataW.trod enc Try.prog W base (fun _ => true) held n' 50 [u11, u12] = some w11 := by simpa [show Try.prog.cellsOf 50 = 2 by kernel_rfl] using g11
  obtain ⟨z11, hz11⟩ := open_Budget n' _ w11 (by rfl) g11 k11
  simp only [RBudget, MBudget.cells, List.cons.injEq, and_true] at hz11
  obtain ⟨rfl, rfl⟩ := hz11
  exact ⟨⟨z0, z1, z2, z3, z4, z5, z6, z7, z8, z9, z10, z11.qa, z11.qb⟩, _, _, _, _, _, _, _, _, _, rfl, hs0, hr1, hr2, hr3, hr4, hr5, hr6, hr7, hr8, hr9⟩
structure MModule where
  qa : ByteArray
  qb : List MPartition
  qc : List MSchedule
  qd : Int
  qe : List MChannel
  qf : List MLink
  qg : List MRule
def RModule (w : World) (x : MModule) (cs : List Value) : Prop := ∃ vqb vqc vqe vqf vqg : Value, cs = [.string x.qa, vqb, vqc, .int .i64 x.qd, vqe, vqf, vqg] ∧ x.qa.size ≤ maxLen ∧ Row w 13 (RPartition w) vqb x.qb ∧ Row w 3 (RSchedule w) vqc x.qc ∧ Row w 3 (RChannel w) vqe x.qe ∧ Row w 3 RLink vqf x.qf ∧ Row w 3 RRule vqg x.qg
theorem RModule.below {w w' : World} {x : MModule} {cs : List Value} (h : RModule w x cs) (hB : Below w.heap.size w w') : RModule w' x cs := by
  obtain ⟨vqb, vqc, vqe, vqf, vqg, e, hs, hqb, hqc, hqe, hqf, hqg⟩ := h
  exact ⟨vqb, vqc, vqe, vqf, vqg, e, hs, hqb.keep hB (fun _ _ h => h.below hB), hqc.keep hB (fun _ _ h => h.below hB), hqe.keep hB (fun _ _ h => h.below hB), hqf.below hB, hqg.below hB⟩
set_option maxHeartbeats 2000000 in
theorem open_Module (n : Nat) (cs : List Value) (y : DataW H × List MemPlace) (hl : cs.length = 7) (h : DataW.trod enc Try.prog W base (fun _ => true) held n 30 cs = some y) (hw : ∀ n ∈ y.1.weights Try.prog 30, n ≤ reachBytes) : ∃ x : MModule, RModule W x cs := by
  obtain ⟨n', hf⟩ := field_of Try.underlying30 h hw
  obtain ⟨u0, u1, u2, u3, u4, u5, u6, rfl⟩ := len7 hl
  obtain ⟨w0, g0, k0⟩ := hf 0 _ rfl
  replace g0 : DataW.trod enc Try.prog W base (fun _ => true) held n' 9 [u0] = some w0 := by simpa [show Try.prog.cellsOf 9 = 1 by kernel_rfl] using g0
  obtain ⟨z0, e0, _, hs0⟩ := DataW.trod_string Try.underlying9 g0
  injection e0 with e0
  subst e0
  obtain ⟨w1, g1, k1⟩ := hf 1 _ rfl
  replace g1 : DataW.trod enc Try.prog W base (fun _ => true) held n' 24 [u1] = some w1 := by simpa [show Try.prog.cellsOf 24 = 1 by kernel_rfl] using g1
  obtain ⟨v1, z1, e1, hr1⟩ := row_of (R := RPartition W) (k := 13) Try.underlying24 (by kernel_rfl) (by decide) (of_decide_eq_true (by kernel_rfl)) (fun n cs y h1 h2 h3 => open_Partition n cs y h1 h2 h3) g1 k1
  injection e1 with e1
  subst e1
  obtain ⟨w2, g2, k2⟩ := hf 2 _ rfl
  replace g2 : DataW.trod enc Try.prog W base (fun _ => true) held n' 25 [u2] = some w2 := by simpa [show Try.prog.cellsOf 25 = 1 by kernel_rfl] using g2
  obtain ⟨v2, z2, e2, hr2⟩ := row_of (R := RSchedule W) (k := 3) Try.underlying25 (by kernel_rfl) (by decide) (of_decide_eq_true (by kernel_rfl)) (fun n cs y h1 h2 h3 => open_Schedule n cs y h1 h2 h3) g2 k2
  injection e2 with e2
  subst e2
  obtain ⟨w3, g3, k3⟩ := hf 3 _ rfl
  replace g3 : DataW.trod enc Try.prog W base (fun _ => true) held n' 3 [u3] = some w3 := by simpa [show Try.prog.cellsOf 3 = 1 by kernel_rfl] using g3
  obtain ⟨z3, e3, _, _⟩ := DataW.trod_int Try.underlying3 g3
  injection e3 with e3
  subst e3
  obtain ⟨w4, g4, k4⟩ := hf 4 _ rfl
  replace g4 : DataW.trod enc Try.prog W base (fun _ => true) held n' 26 [u4] = some w4 := by simpa [show Try.prog.cellsOf 26 = 1 by kernel_rfl] using g4
  obtain ⟨v4, z4, e4, hr4⟩ := row_of (R := RChannel W) (k := 3) Try.underlying26 (by kernel_rfl) (by decide) (of_decide_eq_true (by kernel_rfl)) (fun n cs y h1 h2 h3 => open_Channel n cs y h1 h2 h3) g4 k4
  injection e4 with e4
  subst e4
  obtain ⟨w5, g5, k5⟩ := hf 5 _ rfl
  replace g5 : DataW.trod enc Try.prog W base (fun _ => true) held n' 27 [u5] = some w5 := by simpa [show Try.prog.cellsOf 27 = 1 by kernel_rfl] using g5
  obtain ⟨v5, z5, e5, hr5⟩ := row_of (R := RLink) (k := 3) Try.underlying27 (by kernel_rfl) (by decide) (of_decide_eq_true (by kernel_rfl)) (fun n cs y h1 h2 h3 => open_Link n cs y h1 h2 h3) g5 k5
  injection e5 with e5
  subst e5
  obtain ⟨w6, g6, k6⟩ := hf 6 _ rfl
  replace g6 : DataW.trod enc Try.prog W base (fun _ => true) held n' 28 [u6] = some w6 := by simpa [show Try.prog.cellsOf 28 = 1 by kernel_rfl] using g6
  obtain ⟨v6, z6, e6, hr6⟩ := row_of (R := RRule) (k := 3) Try.underlying28 (by kernel_rfl) (by decide) (of_decide_eq_true (by kernel_rfl)) (fun n cs y h1 h2 h3 => open_Rule n cs y h1 h2 h3) g6 k6
  injection e6 with e6
  subst e6
  exact ⟨⟨z0, z1, z2, z3, z4, z5, z6⟩, _, _, _, _, _, rfl, hs0, hr1, hr2, hr4, hr5, hr6⟩
end
end Go.Proofs.Ytchlgihanogeeaa
