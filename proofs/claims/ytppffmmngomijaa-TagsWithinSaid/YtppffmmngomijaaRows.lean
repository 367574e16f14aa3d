/-
  No cell of these rows narrows 'for every input' (looked for: loops, veiled, ifaces, maps, wideKeys, modest, calm, conditions, laid).
  DERIVED. THE GIVEN ROWS OF THIS SEAT. 6 by the template 'for every input the law returns true; each argument reads behind the call as it read before'; 0 by the template 'total and deterministic' (their statements: YtppffmmngomijaaTotals.lean).
  GIVEN WITH THE SEED: the statements are not yours to turn. If you find one false, say at which input.
  Laid BY PROGRAM, IN A SANDBOX (cutbox-rows.mjs): the forced cells as the released guide's own fill.sh prints them over the translation b7daa699b9a04561… (all of the seat's roots in one cut). By AI agents, Wed Nov 11 2026. No macro, syntax, notation, axiom, sorry.
-/
import Derived.Test.YtppffmmngomijaaChecked
import GoSem.Claim
import GoSem.ClaimJoined
import GoSem.ClaimMapViews
import Derived.JoinedTies
import Derived.KernelRfl
namespace Go.Proofs.Ytppffmmngomijaa
/- THE CELL 'sum', in the pinned program and in every row, IS THE sha256 OF THE DUMP (.gsa) THAT YtppffmmngomijaaProg.lean LOADS. Nothing in Lean hashes anything: it is a label: what it is worth is what the hold of that sum in a sandbox is worth. -/
noncomputable def Try.pinned : Pinned := { name := "ytppffmmngomijaa", sum := "b7daa699b9a04561a4b0b76d8ecf33318293b98f92e26ef93d29293f5084b8db", checked := Try.checked }
namespace Rows
def none {H : Type} : Left H := { results := [], args := [] }

/-- 'malthouselaw08.TagsChecks': WHATEVER THE INPUT: true; the input reads as it did. -/
def tagsChecksSpec : ChangeSpec := { name := "tagsChecks", fn := fun _ => fun
  | [d1, d2] => { results := [.lit (.bool true)], args := [d1, d2] }
  | _ => none }
def tagsChecksRow : OpenClaim := { program := "ytppffmmngomijaa", sum := "b7daa699b9a04561a4b0b76d8ecf33318293b98f92e26ef93d29293f5084b8db", func := "malthouse/malthouselaw08.TagsChecks", spec := "tagsChecks", unfollowed := true, recurses := true, apart := false }
def TagsChecksSaid : Prop := tagsChecksRow.holds Try.pinned (OpenSpec.ofChange tagsChecksSpec)

/-- ITS FALSE NEIGHBOUR: 'it returns false'. Refute it at one input. -/
def tagsChecksWrong : ChangeSpec := { name := "tagsChecks", fn := fun _ => fun
  | [d1, d2] => { results := [.lit (.bool false)], args := [d1, d2] }
  | _ => none }
def TagsChecksWrongFalsely : Prop := tagsChecksRow.holds Try.pinned (OpenSpec.ofChange tagsChecksWrong)

/-- 'malthouselaw08.TagsLatches': WHATEVER THE INPUT: true; the input reads as it did. -/
def tagsLatchesSpec : ChangeSpec := { name := "tagsLatches", fn := fun _ => fun
  | [d1, d2, d3] => { results := [.lit (.bool true)], args := [d1, d2, d3] }
  | _ => none }
def tagsLatchesRow : OpenClaim := { program := "ytppffmmngomijaa", sum := "b7daa699b9a04561a4b0b76d8ecf33318293b98f92e26ef93d29293f5084b8db", func := "malthouse/malthouselaw08.TagsLatches", spec := "tagsLatches", unfollowed := true, recurses := true, apart := false }
def TagsLatchesSaid : Prop := tagsLatchesRow.holds Try.pinned (OpenSpec.ofChange tagsLatchesSpec)

/-- ITS FALSE NEIGHBOUR: 'it returns false'. Refute it at one input. -/
def tagsLatchesWrong : ChangeSpec := { name := "tagsLatches", fn := fun _ => fun
  | [d1, d2, d3] => { results := [.lit (.bool false)], args := [d1, d2, d3] }
  | _ => none }
def TagsLatchesWrongFalsely : Prop := tagsLatchesRow.holds Try.pinned (OpenSpec.ofChange tagsLatchesWrong)

/-- 'malthouselaw08.TagsDrives': WHATEVER THE INPUT: true; the input reads as it did. -/
def tagsDrivesSpec : ChangeSpec := { name := "tagsDrives", fn := fun _ => fun
  | [d1, d2, d3] => { results := [.lit (.bool true)], args := [d1, d2, d3] }
  | _ => none }
def tagsDrivesRow : OpenClaim := { program := "ytppffmmngomijaa", sum := "b7daa699b9a04561a4b0b76d8ecf33318293b98f92e26ef93d29293f5084b8db", func := "malthouse/malthouselaw08.TagsDrives", spec := "tagsDrives", unfollowed := true, recurses := true, apart := false }
def TagsDrivesSaid : Prop := tagsDrivesRow.holds Try.pinned (OpenSpec.ofChange tagsDrivesSpec)

/-- ITS FALSE NEIGHBOUR: 'it returns false'. Refute it at one input. -/
def tagsDrivesWrong : ChangeSpec := { name := "tagsDrives", fn := fun _ => fun
  | [d1, d2, d3] => { results := [.lit (.bool false)], args := [d1, d2, d3] }
  | _ => none }
def TagsDrivesWrongFalsely : Prop := tagsDrivesRow.holds Try.pinned (OpenSpec.ofChange tagsDrivesWrong)

/-- 'malthouselaw08.TagsEnv': WHATEVER THE INPUT: true; the input reads as it did. -/
def tagsEnvSpec : ChangeSpec := { name := "tagsEnv", fn := fun _ => fun
  | [d1, d2] => { results := [.lit (.bool true)], args := [d1, d2] }
  | _ => none }
def tagsEnvRow : OpenClaim := { program := "ytppffmmngomijaa", sum := "b7daa699b9a04561a4b0b76d8ecf33318293b98f92e26ef93d29293f5084b8db", func := "malthouse/malthouselaw08.TagsEnv", spec := "tagsEnv", unfollowed := true, recurses := true, apart := false }
def TagsEnvSaid : Prop := tagsEnvRow.holds Try.pinned (OpenSpec.ofChange tagsEnvSpec)

/-- ITS FALSE NEIGHBOUR: 'it returns false'. Refute it at one input. -/
def tagsEnvWrong : ChangeSpec := { name := "tagsEnv", fn := fun _ => fun
  | [d1, d2] => { results := [.lit (.bool false)], args := [d1, d2] }
  | _ => none }
def TagsEnvWrongFalsely : Prop := tagsEnvRow.holds Try.pinned (OpenSpec.ofChange tagsEnvWrong)

/-- 'malthouselaw08.TagsWithin': WHATEVER THE INPUT: true; the input reads as it did. -/
def tagsWithinSpec : ChangeSpec := { name := "tagsWithin", fn := fun _ => fun
  | [d1, d2] => { results := [.lit (.bool true)], args := [d1, d2] }
  | _ => none }
def tagsWithinRow : OpenClaim := { program := "ytppffmmngomijaa", sum := "b7daa699b9a04561a4b0b76d8ecf33318293b98f92e26ef93d29293f5084b8db", func := "malthouse/malthouselaw08.TagsWithin", spec := "tagsWithin", unfollowed := true, recurses := true, apart := false }
def TagsWithinSaid : Prop := tagsWithinRow.holds Try.pinned (OpenSpec.ofChange tagsWithinSpec)

/-- ITS FALSE NEIGHBOUR: 'it returns false'. Refute it at one input. -/
def tagsWithinWrong : ChangeSpec := { name := "tagsWithin", fn := fun _ => fun
  | [d1, d2] => { results := [.lit (.bool false)], args := [d1, d2] }
  | _ => none }
def TagsWithinWrongFalsely : Prop := tagsWithinRow.holds Try.pinned (OpenSpec.ofChange tagsWithinWrong)

/-- 'malthouselaw08.TagsApart': WHATEVER THE INPUT: true; the input reads as it did. -/
def tagsApartSpec : ChangeSpec := { name := "tagsApart", fn := fun _ => fun
  | [d1, d2, d3, d4] => { results := [.lit (.bool true)], args := [d1, d2, d3, d4] }
  | _ => none }
def tagsApartRow : OpenClaim := { program := "ytppffmmngomijaa", sum := "b7daa699b9a04561a4b0b76d8ecf33318293b98f92e26ef93d29293f5084b8db", func := "malthouse/malthouselaw08.TagsApart", spec := "tagsApart", unfollowed := true, recurses := true, apart := false }
def TagsApartSaid : Prop := tagsApartRow.holds Try.pinned (OpenSpec.ofChange tagsApartSpec)

/-- ITS FALSE NEIGHBOUR: 'it returns false'. Refute it at one input. -/
def tagsApartWrong : ChangeSpec := { name := "tagsApart", fn := fun _ => fun
  | [d1, d2, d3, d4] => { results := [.lit (.bool false)], args := [d1, d2, d3, d4] }
  | _ => none }
def TagsApartWrongFalsely : Prop := tagsApartRow.holds Try.pinned (OpenSpec.ofChange tagsApartWrong)

/- THE SECOND FORM. 'bulk': how many values and letters a reading holds, each counted each time it is reached (what is shared counts as often as it is met; a slice's spare places count too). A statement '..UptoSaid' is the law's where the arguments, and the package variables that the reading takes, are together of bulk at most 1048576: NARROWER than '..Said'. Prove '..Said' where nothing that the law and all that it calls make is longer than what came in: it says more and counts as full. Else prove '..UptoSaid'. A law counts once. -/
mutual
def uptoBulk {H : Type} : DataW H → Nat
  | .lit (.string bytes) => bytes.length + 1
  | .lit _ => 1
  | .nil => 1
  | .ptr d => uptoBulk d + 1
  | .slice elems spare => uptoBulkAll elems + uptoBulkAll spare + 1
  | .agg parts => uptoBulkAll parts + 1
  | .iface _ d => uptoBulk d + 1
  | .map entries => uptoBulkEntries entries + 1
  | .held _ => 1
def uptoBulkAll {H : Type} : List (DataW H) → Nat
  | [] => 0
  | d :: r => uptoBulk d + uptoBulkAll r
def uptoBulkEntries {H : Type} : List (Lit × DataW H) → Nat
  | [] => 0
  | x :: r => uptoBulkEntry x + uptoBulkEntries r
def uptoBulkEntry {H : Type} : Lit × DataW H → Nat
  | (.string bytes, d) => bytes.length + uptoBulk d + 1
  | (_, d) => uptoBulk d + 1
 end
def uptoSmall : (H : Type) → List (DataW H) → Bool := fun _ ds => decide (uptoBulkAll ds ≤ 1048576)
def OpenSpec.upto (s : _root_.Go.ChangeSpec) : _root_.Go.OpenSpec := { _root_.Go.OpenSpec.ofChange s with cond := some uptoSmall }

/-- 'malthouselaw08.TagsChecks', WHERE WHAT IT READS IS OF BULK AT MOST 1048576: true; the input reads as it did. -/
def tagsChecksUptoRow : OpenClaim := { program := "ytppffmmngomijaa", sum := "b7daa699b9a04561a4b0b76d8ecf33318293b98f92e26ef93d29293f5084b8db", func := "malthouse/malthouselaw08.TagsChecks", spec := "tagsChecks", unfollowed := true, recurses := true, apart := false, narrowed := true }
def TagsChecksUptoSaid : Prop := tagsChecksUptoRow.holds Try.pinned (OpenSpec.upto tagsChecksSpec)

/-- 'malthouselaw08.TagsLatches', WHERE WHAT IT READS IS OF BULK AT MOST 1048576: true; the input reads as it did. -/
def tagsLatchesUptoRow : OpenClaim := { program := "ytppffmmngomijaa", sum := "b7daa699b9a04561a4b0b76d8ecf33318293b98f92e26ef93d29293f5084b8db", func := "malthouse/malthouselaw08.TagsLatches", spec := "tagsLatches", unfollowed := true, recurses := true, apart := false, narrowed := true }
def TagsLatchesUptoSaid : Prop := tagsLatchesUptoRow.holds Try.pinned (OpenSpec.upto tagsLatchesSpec)

/-- 'malthouselaw08.TagsDrives', WHERE WHAT IT READS IS OF BULK AT MOST 1048576: true; the input reads as it did. -/
def tagsDrivesUptoRow : OpenClaim := { program := "ytppffmmngomijaa", sum := "b7daa699b9a04561a4b0b76d8ecf33318293b98f92e26ef93d29293f5084b8db", func := "malthouse/malthouselaw08.TagsDrives", spec := "tagsDrives", unfollowed := true, recurses := true, apart := false, narrowed := true }
def TagsDrivesUptoSaid : Prop := tagsDrivesUptoRow.holds Try.pinned (OpenSpec.upto tagsDrivesSpec)

/-- 'malthouselaw08.TagsEnv', WHERE WHAT IT READS IS OF BULK AT MOST 1048576: true; the input reads as it did. -/
def tagsEnvUptoRow : OpenClaim := { program := "ytppffmmngomijaa", sum := "b7daa699b9a04561a4b0b76d8ecf33318293b98f92e26ef93d29293f5084b8db", func := "malthouse/malthouselaw08.TagsEnv", spec := "tagsEnv", unfollowed := true, recurses := true, apart := false, narrowed := true }
def TagsEnvUptoSaid : Prop := tagsEnvUptoRow.holds Try.pinned (OpenSpec.upto tagsEnvSpec)

/-- 'malthouselaw08.TagsWithin', WHERE WHAT IT READS IS OF BULK AT MOST 1048576: true; the input reads as it did. -/
def tagsWithinUptoRow : OpenClaim := { program := "ytppffmmngomijaa", sum := "b7daa699b9a04561a4b0b76d8ecf33318293b98f92e26ef93d29293f5084b8db", func := "malthouse/malthouselaw08.TagsWithin", spec := "tagsWithin", unfollowed := true, recurses := true, apart := false, narrowed := true }
def TagsWithinUptoSaid : Prop := tagsWithinUptoRow.holds Try.pinned (OpenSpec.upto tagsWithinSpec)

/-- 'malthouselaw08.TagsApart', WHERE WHAT IT READS IS OF BULK AT MOST 1048576: true; the input reads as it did. -/
def tagsApartUptoRow : OpenClaim := { program := "ytppffmmngomijaa", sum := "b7daa699b9a04561a4b0b76d8ecf33318293b98f92e26ef93d29293f5084b8db", func := "malthouse/malthouselaw08.TagsApart", spec := "tagsApart", unfollowed := true, recurses := true, apart := false, narrowed := true }
def TagsApartUptoSaid : Prop := tagsApartUptoRow.holds Try.pinned (OpenSpec.upto tagsApartSpec)

end Rows
end Go.Proofs.Ytppffmmngomijaa
