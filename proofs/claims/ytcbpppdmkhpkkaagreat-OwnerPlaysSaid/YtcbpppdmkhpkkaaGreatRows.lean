/-
  No cell of these rows narrows 'for every input' (looked for: loops, veiled, ifaces, maps, wideKeys, modest, calm, conditions, laid).
  DERIVED. THE GIVEN ROWS OF THIS SEAT. 4 by the template 'for every input the law returns true; each argument reads behind the call as it read before'; 0 by the template 'total and deterministic' (their statements: YtcbpppdmkhpkkaaGreatTotals.lean).
  GIVEN WITH THE SEED: the statements are not yours to turn. If you find one false, say at which input.
  Laid BY PROGRAM, IN A SANDBOX (cutbox-rows.mjs): the forced cells as the released guide's own fill.sh prints them over the translation b3c5e235b5ee4981… (all of the seat's roots in one cut). By AI agents, Wed Nov 11 2026. No macro, syntax, notation, axiom, sorry.
-/
import Derived.Test.YtcbpppdmkhpkkaaGreatChecked
import GoSem.Claim
import GoSem.ClaimJoined
import GoSem.ClaimMapViews
import Derived.JoinedTies
import Derived.KernelRfl
namespace Go.Proofs.YtcbpppdmkhpkkaaGreat
/- THE CELL 'sum', in the pinned program and in every row, IS THE sha256 OF THE DUMP (.gsa) THAT YtcbpppdmkhpkkaaGreatProg.lean LOADS. Nothing in Lean hashes anything: it is a label: what it is worth is what the hold of that sum in a sandbox is worth. -/
noncomputable def Tryz.pinned : Pinned := { name := "ytcbpppdmkhpkkaagreat", sum := "b3c5e235b5ee4981a027ae444da1037a4eed9c3bc90d337acc74d2df0bf457d3", checked := Tryz.checked }
namespace Rows
def none {H : Type} : Left H := { results := [], args := [] }

/-- 'mailcoachlaw17.OwnerPlays': WHATEVER THE INPUT: true; the input reads as it did. -/
def ownerPlaysSpec : ChangeSpec := { name := "ownerPlays", fn := fun _ => fun
  | [d] => { results := [.lit (.bool true)], args := [d] }
  | _ => none }
def ownerPlaysRow : OpenClaim := { program := "ytcbpppdmkhpkkaagreat", sum := "b3c5e235b5ee4981a027ae444da1037a4eed9c3bc90d337acc74d2df0bf457d3", func := "mailcoach/mailcoachlaw17.OwnerPlays", spec := "ownerPlays", inPlace := ["internal/bytealg.abigen_runtime_cmpstring"], unfollowed := true, recurses := true, apart := false }
def OwnerPlaysSaid : Prop := ownerPlaysRow.holds Tryz.pinned (OpenSpec.ofChange ownerPlaysSpec)

/-- ITS FALSE NEIGHBOUR: 'it returns false'. Refute it at one input. -/
def ownerPlaysWrong : ChangeSpec := { name := "ownerPlays", fn := fun _ => fun
  | [d] => { results := [.lit (.bool false)], args := [d] }
  | _ => none }
def OwnerPlaysWrongFalsely : Prop := ownerPlaysRow.holds Tryz.pinned (OpenSpec.ofChange ownerPlaysWrong)

/-- 'mailcoachlaw17.OwnerOne': WHATEVER THE INPUT: true; the input reads as it did. -/
def ownerOneSpec : ChangeSpec := { name := "ownerOne", fn := fun _ => fun
  | [d] => { results := [.lit (.bool true)], args := [d] }
  | _ => none }
def ownerOneRow : OpenClaim := { program := "ytcbpppdmkhpkkaagreat", sum := "b3c5e235b5ee4981a027ae444da1037a4eed9c3bc90d337acc74d2df0bf457d3", func := "mailcoach/mailcoachlaw17.OwnerOne", spec := "ownerOne", inPlace := ["internal/bytealg.abigen_runtime_cmpstring"], unfollowed := true, recurses := true, apart := false }
def OwnerOneSaid : Prop := ownerOneRow.holds Tryz.pinned (OpenSpec.ofChange ownerOneSpec)

/-- ITS FALSE NEIGHBOUR: 'it returns false'. Refute it at one input. -/
def ownerOneWrong : ChangeSpec := { name := "ownerOne", fn := fun _ => fun
  | [d] => { results := [.lit (.bool false)], args := [d] }
  | _ => none }
def OwnerOneWrongFalsely : Prop := ownerOneRow.holds Tryz.pinned (OpenSpec.ofChange ownerOneWrong)

/-- 'mailcoachlaw17.OwnerNil': WHATEVER THE INPUT: true; the input reads as it did. -/
def ownerNilSpec : ChangeSpec := { name := "ownerNil", fn := fun _ => fun
  | [d] => { results := [.lit (.bool true)], args := [d] }
  | _ => none }
def ownerNilRow : OpenClaim := { program := "ytcbpppdmkhpkkaagreat", sum := "b3c5e235b5ee4981a027ae444da1037a4eed9c3bc90d337acc74d2df0bf457d3", func := "mailcoach/mailcoachlaw17.OwnerNil", spec := "ownerNil", inPlace := ["internal/bytealg.abigen_runtime_cmpstring"], unfollowed := true, recurses := true, apart := false }
def OwnerNilSaid : Prop := ownerNilRow.holds Tryz.pinned (OpenSpec.ofChange ownerNilSpec)

/-- ITS FALSE NEIGHBOUR: 'it returns false'. Refute it at one input. -/
def ownerNilWrong : ChangeSpec := { name := "ownerNil", fn := fun _ => fun
  | [d] => { results := [.lit (.bool false)], args := [d] }
  | _ => none }
def OwnerNilWrongFalsely : Prop := ownerNilRow.holds Tryz.pinned (OpenSpec.ofChange ownerNilWrong)

/-- 'mailcoachlaw17.OwnerFalls': WHATEVER THE INPUT: true; the input reads as it did. -/
def ownerFallsSpec : ChangeSpec := { name := "ownerFalls", fn := fun _ => fun
  | [d1, d2, d3] => { results := [.lit (.bool true)], args := [d1, d2, d3] }
  | _ => none }
def ownerFallsRow : OpenClaim := { program := "ytcbpppdmkhpkkaagreat", sum := "b3c5e235b5ee4981a027ae444da1037a4eed9c3bc90d337acc74d2df0bf457d3", func := "mailcoach/mailcoachlaw17.OwnerFalls", spec := "ownerFalls", inPlace := ["internal/bytealg.abigen_runtime_cmpstring"], unfollowed := true, recurses := true, apart := false }
def OwnerFallsSaid : Prop := ownerFallsRow.holds Tryz.pinned (OpenSpec.ofChange ownerFallsSpec)

/-- ITS FALSE NEIGHBOUR: 'it returns false'. Refute it at one input. -/
def ownerFallsWrong : ChangeSpec := { name := "ownerFalls", fn := fun _ => fun
  | [d1, d2, d3] => { results := [.lit (.bool false)], args := [d1, d2, d3] }
  | _ => none }
def OwnerFallsWrongFalsely : Prop := ownerFallsRow.holds Tryz.pinned (OpenSpec.ofChange ownerFallsWrong)

/- THE SECOND FORM. 'bulk': how many values and letters a reading holds, each counted each time it is reached (what is shared counts as often as it is met; a slice's spare places count too). A statement '..UptoSaid' is the law's where the arguments, and the package variables that the reading takes, are together of bulk at most 1048576: NARROWER than '..Said'. Prove '..Said' where nothing that the law and all that it calls make is longer than what came in: it says more and counts as full. Else prove '..UptoSaid'. A law counts once. -/
mutual
def uptoBulk {H : Type} : DataW H → Nat
  | .lit (.string bytes) => bytes.length + 1
  | .lit _ => 1
  | .nil => 1
  | .ptr d => uptoBulk d + 1
  | .slice elems spare => uptoBulkAll elems + uptoBulkAll spare + 1
  | .agg parts => uptoBulkAll parts + 1
  | .iface _ d => uptoBulk d + 1
  | .map entries => uptoBulkEntries entries + 1
  | .held _ => 1
def uptoBulkAll {H : Type} : List (DataW H) → Nat
  | [] => 0
  | d :: r => uptoBulk d + uptoBulkAll r
def uptoBulkEntries {H : Type} : List (Lit × DataW H) → Nat
  | [] => 0
  | x :: r => uptoBulkEntry x + uptoBulkEntries r
def uptoBulkEntry {H : Type} : Lit × DataW H → Nat
  | (.string bytes, d) => bytes.length + uptoBulk d + 1
  | (_, d) => uptoBulk d + 1
 end
def uptoSmall : (H : Type) → List (DataW H) → Bool := fun _ ds => decide (uptoBulkAll ds ≤ 1048576)
def OpenSpec.upto (s : _root_.Go.ChangeSpec) : _root_.Go.OpenSpec := { _root_.Go.OpenSpec.ofChange s with cond := some uptoSmall }

/-- 'mailcoachlaw17.OwnerPlays', WHERE WHAT IT READS IS OF BULK AT MOST 1048576: true; the input reads as it did. -/
def ownerPlaysUptoRow : OpenClaim := { program := "ytcbpppdmkhpkkaagreat", sum := "b3c5e235b5ee4981a027ae444da1037a4eed9c3bc90d337acc74d2df0bf457d3", func := "mailcoach/mailcoachlaw17.OwnerPlays", spec := "ownerPlays", inPlace := ["internal/bytealg.abigen_runtime_cmpstring"], unfollowed := true, recurses := true, apart := false, narrowed := true }
def OwnerPlaysUptoSaid : Prop := ownerPlaysUptoRow.holds Tryz.pinned (OpenSpec.upto ownerPlaysSpec)

/-- 'mailcoachlaw17.OwnerOne', WHERE WHAT IT READS IS OF BULK AT MOST 1048576: true; the input reads as it did. -/
def ownerOneUptoRow : OpenClaim := { program := "ytcbpppdmkhpkkaagreat", sum := "b3c5e235b5ee4981a027ae444da1037a4eed9c3bc90d337acc74d2df0bf457d3", func := "mailcoach/mailcoachlaw17.OwnerOne", spec := "ownerOne", inPlace := ["internal/bytealg.abigen_runtime_cmpstring"], unfollowed := true, recurses := true, apart := false, narrowed := true }
def OwnerOneUptoSaid : Prop := ownerOneUptoRow.holds Tryz.pinned (OpenSpec.upto ownerOneSpec)

/-- 'mailcoachlaw17.OwnerNil', WHERE WHAT IT READS IS OF BULK AT MOST 1048576: true; the input reads as it did. -/
def ownerNilUptoRow : OpenClaim := { program := "ytcbpppdmkhpkkaagreat", sum := "b3c5e235b5ee4981a027ae444da1037a4eed9c3bc90d337acc74d2df0bf457d3", func := "mailcoach/mailcoachlaw17.OwnerNil", spec := "ownerNil", inPlace := ["internal/bytealg.abigen_runtime_cmpstring"], unfollowed := true, recurses := true, apart := false, narrowed := true }
def OwnerNilUptoSaid : Prop := ownerNilUptoRow.holds Tryz.pinned (OpenSpec.upto ownerNilSpec)

/-- 'mailcoachlaw17.OwnerFalls', WHERE WHAT IT READS IS OF BULK AT MOST 1048576: true; the input reads as it did. -/
def ownerFallsUptoRow : OpenClaim := { program := "ytcbpppdmkhpkkaagreat", sum := "b3c5e235b5ee4981a027ae444da1037a4eed9c3bc90d337acc74d2df0bf457d3", func := "mailcoach/mailcoachlaw17.OwnerFalls", spec := "ownerFalls", inPlace := ["internal/bytealg.abigen_runtime_cmpstring"], unfollowed := true, recurses := true, apart := false, narrowed := true }
def OwnerFallsUptoSaid : Prop := ownerFallsUptoRow.holds Tryz.pinned (OpenSpec.upto ownerFallsSpec)

end Rows
end Go.Proofs.YtcbpppdmkhpkkaaGreat
