/-
  No cell of these rows narrows 'for every input' (looked for: loops, veiled, ifaces, maps, wideKeys, modest, calm, conditions, laid).
  DERIVED. THE GIVEN ROWS OF THIS SEAT. 5 by the template 'for every input the law returns true; each argument reads behind the call as it read before'; 0 by the template 'total and deterministic' (their statements: YthnlkfcfiieddaaTotals.lean).
  GIVEN WITH THE SEED: the statements are not yours to turn. If you find one false, say at which input.
  Laid BY PROGRAM, IN A SANDBOX (cutbox-rows.mjs): the forced cells as the released guide's own fill.sh prints them over the translation f00f0571b617d2f4… (all of the seat's roots in one cut). By AI agents, Wed Nov 11 2026. No macro, syntax, notation, axiom, sorry.
-/
import Derived.Test.YthnlkfcfiieddaaChecked
import GoSem.Claim
import GoSem.ClaimJoined
import GoSem.ClaimMapViews
import Derived.JoinedTies
import Derived.KernelRfl
namespace Go.Proofs.Ythnlkfcfiieddaa
/- THE CELL 'sum', in the pinned program and in every row, IS THE sha256 OF THE DUMP (.gsa) THAT YthnlkfcfiieddaaProg.lean LOADS. Nothing in Lean hashes anything: it is a label: what it is worth is what the hold of that sum in a sandbox is worth. -/
noncomputable def Try.pinned : Pinned := { name := "ythnlkfcfiieddaa", sum := "f00f0571b617d2f4fa4db2f56549999a0e885e2aebe6911257dade63f826e97e", checked := Try.checked }
namespace Rows
def none {H : Type} : Left H := { results := [], args := [] }

/-- 'monocoquelaw31.HealthPlays': WHATEVER THE INPUT: true; the input reads as it did. -/
def healthPlaysSpec : ChangeSpec := { name := "healthPlays", fn := fun _ => fun
  | [d1, d2, d3] => { results := [.lit (.bool true)], args := [d1, d2, d3] }
  | _ => none }
def healthPlaysRow : OpenClaim := { program := "ythnlkfcfiieddaa", sum := "f00f0571b617d2f4fa4db2f56549999a0e885e2aebe6911257dade63f826e97e", func := "monocoque/monocoquelaw31.HealthPlays", spec := "healthPlays", inPlace := ["maps.clone"], plainKeys := false, apart := false }
def HealthPlaysSaid : Prop := healthPlaysRow.holds Try.pinned (OpenSpec.ofChange healthPlaysSpec)

/-- ITS FALSE NEIGHBOUR: 'it returns false'. Refute it at one input. -/
def healthPlaysWrong : ChangeSpec := { name := "healthPlays", fn := fun _ => fun
  | [d1, d2, d3] => { results := [.lit (.bool false)], args := [d1, d2, d3] }
  | _ => none }
def HealthPlaysWrongFalsely : Prop := healthPlaysRow.holds Try.pinned (OpenSpec.ofChange healthPlaysWrong)

/-- 'monocoquelaw31.HealthWithin': WHATEVER THE INPUT: true; the input reads as it did. -/
def healthWithinSpec : ChangeSpec := { name := "healthWithin", fn := fun _ => fun
  | [d1, d2, d3] => { results := [.lit (.bool true)], args := [d1, d2, d3] }
  | _ => none }
def healthWithinRow : OpenClaim := { program := "ythnlkfcfiieddaa", sum := "f00f0571b617d2f4fa4db2f56549999a0e885e2aebe6911257dade63f826e97e", func := "monocoque/monocoquelaw31.HealthWithin", spec := "healthWithin", plainKeys := false, apart := false }
def HealthWithinSaid : Prop := healthWithinRow.holds Try.pinned (OpenSpec.ofChange healthWithinSpec)

/-- ITS FALSE NEIGHBOUR: 'it returns false'. Refute it at one input. -/
def healthWithinWrong : ChangeSpec := { name := "healthWithin", fn := fun _ => fun
  | [d1, d2, d3] => { results := [.lit (.bool false)], args := [d1, d2, d3] }
  | _ => none }
def HealthWithinWrongFalsely : Prop := healthWithinRow.holds Try.pinned (OpenSpec.ofChange healthWithinWrong)

/-- 'monocoquelaw31.HealthSame': WHATEVER THE INPUT: true; the input reads as it did. -/
def healthSameSpec : ChangeSpec := { name := "healthSame", fn := fun _ => fun
  | [d1, d2, d3, d4] => { results := [.lit (.bool true)], args := [d1, d2, d3, d4] }
  | _ => none }
def healthSameRow : OpenClaim := { program := "ythnlkfcfiieddaa", sum := "f00f0571b617d2f4fa4db2f56549999a0e885e2aebe6911257dade63f826e97e", func := "monocoque/monocoquelaw31.HealthSame", spec := "healthSame", unfollowed := true, recurses := true, plainKeys := false, apart := false }
def HealthSameSaid : Prop := healthSameRow.holds Try.pinned (OpenSpec.ofChange healthSameSpec)

/-- ITS FALSE NEIGHBOUR: 'it returns false'. Refute it at one input. -/
def healthSameWrong : ChangeSpec := { name := "healthSame", fn := fun _ => fun
  | [d1, d2, d3, d4] => { results := [.lit (.bool false)], args := [d1, d2, d3, d4] }
  | _ => none }
def HealthSameWrongFalsely : Prop := healthSameRow.holds Try.pinned (OpenSpec.ofChange healthSameWrong)

/-- 'monocoquelaw31.HealthOrder': WHATEVER THE INPUT: true; the input reads as it did. -/
def healthOrderSpec : ChangeSpec := { name := "healthOrder", fn := fun _ => fun
  | [d1, d2, d3, d4] => { results := [.lit (.bool true)], args := [d1, d2, d3, d4] }
  | _ => none }
def healthOrderRow : OpenClaim := { program := "ythnlkfcfiieddaa", sum := "f00f0571b617d2f4fa4db2f56549999a0e885e2aebe6911257dade63f826e97e", func := "monocoque/monocoquelaw31.HealthOrder", spec := "healthOrder", plainKeys := false, apart := false }
def HealthOrderSaid : Prop := healthOrderRow.holds Try.pinned (OpenSpec.ofChange healthOrderSpec)

/-- ITS FALSE NEIGHBOUR: 'it returns false'. Refute it at one input. -/
def healthOrderWrong : ChangeSpec := { name := "healthOrder", fn := fun _ => fun
  | [d1, d2, d3, d4] => { results := [.lit (.bool false)], args := [d1, d2, d3, d4] }
  | _ => none }
def HealthOrderWrongFalsely : Prop := healthOrderRow.holds Try.pinned (OpenSpec.ofChange healthOrderWrong)

/-- 'monocoquelaw31.HealthBare': WHATEVER THE INPUT: true; the input reads as it did. -/
def healthBareSpec : ChangeSpec := { name := "healthBare", fn := fun _ => fun
  | [d1, d2, d3, d4] => { results := [.lit (.bool true)], args := [d1, d2, d3, d4] }
  | _ => none }
def healthBareRow : OpenClaim := { program := "ythnlkfcfiieddaa", sum := "f00f0571b617d2f4fa4db2f56549999a0e885e2aebe6911257dade63f826e97e", func := "monocoque/monocoquelaw31.HealthBare", spec := "healthBare", plainKeys := false, apart := false }
def HealthBareSaid : Prop := healthBareRow.holds Try.pinned (OpenSpec.ofChange healthBareSpec)

/-- ITS FALSE NEIGHBOUR: 'it returns false'. Refute it at one input. -/
def healthBareWrong : ChangeSpec := { name := "healthBare", fn := fun _ => fun
  | [d1, d2, d3, d4] => { results := [.lit (.bool false)], args := [d1, d2, d3, d4] }
  | _ => none }
def HealthBareWrongFalsely : Prop := healthBareRow.holds Try.pinned (OpenSpec.ofChange healthBareWrong)

/- THE SECOND FORM. 'bulk': how many values and letters a reading holds, each counted each time it is reached (what is shared counts as often as it is met; a slice's spare places count too). A statement '..UptoSaid' is the law's where the arguments, and the package variables that the reading takes, are together of bulk at most 1048576: NARROWER than '..Said'. Prove '..Said' where nothing that the law and all that it calls make is longer than what came in: it says more and counts as full. Else prove '..UptoSaid'. A law counts once. -/
mutual
def uptoBulk {H : Type} : DataW H → Nat
  | .lit (.string bytes) => bytes.length + 1
  | .lit _ => 1
  | .nil => 1
  | .ptr d => uptoBulk d + 1
  | .slice elems spare => uptoBulkAll elems + uptoBulkAll spare + 1
  | .agg parts => uptoBulkAll parts + 1
  | .iface _ d => uptoBulk d + 1
  | .map entries => uptoBulkEntries entries + 1
  | .held _ => 1
def uptoBulkAll {H : Type} : List (DataW H) → Nat
  | [] => 0
  | d :: r => uptoBulk d + uptoBulkAll r
def uptoBulkEntries {H : Type} : List (Lit × DataW H) → Nat
  | [] => 0
  | x :: r => uptoBulkEntry x + uptoBulkEntries r
def uptoBulkEntry {H : Type} : Lit × DataW H → Nat
  | (.string bytes, d) => bytes.length + uptoBulk d + 1
  | (_, d) => uptoBulk d + 1
 end
def uptoSmall : (H : Type) → List (DataW H) → Bool := fun _ ds => decide (uptoBulkAll ds ≤ 1048576)
def OpenSpec.upto (s : _root_.Go.ChangeSpec) : _root_.Go.OpenSpec := { _root_.Go.OpenSpec.ofChange s with cond := some uptoSmall }

/-- 'monocoquelaw31.HealthPlays', WHERE WHAT IT READS IS OF BULK AT MOST 1048576: true; the input reads as it did. -/
def healthPlaysUptoRow : OpenClaim := { program := "ythnlkfcfiieddaa", sum := "f00f0571b617d2f4fa4db2f56549999a0e885e2aebe6911257dade63f826e97e", func := "monocoque/monocoquelaw31.HealthPlays", spec := "healthPlays", inPlace := ["maps.clone"], plainKeys := false, apart := false, narrowed := true }
def HealthPlaysUptoSaid : Prop := healthPlaysUptoRow.holds Try.pinned (OpenSpec.upto healthPlaysSpec)

/-- 'monocoquelaw31.HealthWithin', WHERE WHAT IT READS IS OF BULK AT MOST 1048576: true; the input reads as it did. -/
def healthWithinUptoRow : OpenClaim := { program := "ythnlkfcfiieddaa", sum := "f00f0571b617d2f4fa4db2f56549999a0e885e2aebe6911257dade63f826e97e", func := "monocoque/monocoquelaw31.HealthWithin", spec := "healthWithin", plainKeys := false, apart := false, narrowed := true }
def HealthWithinUptoSaid : Prop := healthWithinUptoRow.holds Try.pinned (OpenSpec.upto healthWithinSpec)

/-- 'monocoquelaw31.HealthSame', WHERE WHAT IT READS IS OF BULK AT MOST 1048576: true; the input reads as it did. -/
def healthSameUptoRow : OpenClaim := { program := "ythnlkfcfiieddaa", sum := "f00f0571b617d2f4fa4db2f56549999a0e885e2aebe6911257dade63f826e97e", func := "monocoque/monocoquelaw31.HealthSame", spec := "healthSame", unfollowed := true, recurses := true, plainKeys := false, apart := false, narrowed := true }
def HealthSameUptoSaid : Prop := healthSameUptoRow.holds Try.pinned (OpenSpec.upto healthSameSpec)

/-- 'monocoquelaw31.HealthOrder', WHERE WHAT IT READS IS OF BULK AT MOST 1048576: true; the input reads as it did. -/
def healthOrderUptoRow : OpenClaim := { program := "ythnlkfcfiieddaa", sum := "f00f0571b617d2f4fa4db2f56549999a0e885e2aebe6911257dade63f826e97e", func := "monocoque/monocoquelaw31.HealthOrder", spec := "healthOrder", plainKeys := false, apart := false, narrowed := true }
def HealthOrderUptoSaid : Prop := healthOrderUptoRow.holds Try.pinned (OpenSpec.upto healthOrderSpec)

/-- 'monocoquelaw31.HealthBare', WHERE WHAT IT READS IS OF BULK AT MOST 1048576: true; the input reads as it did. -/
def healthBareUptoRow : OpenClaim := { program := "ythnlkfcfiieddaa", sum := "f00f0571b617d2f4fa4db2f56549999a0e885e2aebe6911257dade63f826e97e", func := "monocoque/monocoquelaw31.HealthBare", spec := "healthBare", plainKeys := false, apart := false, narrowed := true }
def HealthBareUptoSaid : Prop := healthBareUptoRow.holds Try.pinned (OpenSpec.upto healthBareSpec)

end Rows
end Go.Proofs.Ythnlkfcfiieddaa
