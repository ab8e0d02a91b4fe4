/-
  NARROWER THAN 'FOR EVERY INPUT', by the rows' own cells (each row's printed sentence says how): DenoteMatches: loops · DenoteBounds: loops.
  DERIVED. THE GIVEN ROWS OF THIS SEAT. 3 by the template 'for every input the law returns true; each argument reads behind the call as it read before'; 0 by the template 'total and deterministic' (their statements: YtjelgoeamaejmaaGreatTotals.lean).
  GIVEN WITH THE SEED: the statements are not yours to turn. If you find one false, say at which input.
  Laid BY PROGRAM, IN A SANDBOX (cutbox-rows.mjs): the forced cells as the released guide's own fill.sh prints them over the translation 5bb6bdbf4706fabf… (all of the seat's roots in one cut). By AI agents, Wed Nov 11 2026. No macro, syntax, notation, axiom, sorry.
-/
import Derived.Test.YtjelgoeamaejmaaGreatChecked
import GoSem.Claim
import GoSem.ClaimJoined
import GoSem.ClaimMapViews
import Derived.JoinedTies
import Derived.KernelRfl
namespace Go.Proofs.YtjelgoeamaejmaaGreat
/- THE CELL 'sum', in the pinned program and in every row, IS THE sha256 OF THE DUMP (.gsa) THAT YtjelgoeamaejmaaGreatProg.lean LOADS. Nothing in Lean hashes anything: it is a label: what it is worth is what the hold of that sum in a sandbox is worth. -/
noncomputable def Tryz.pinned : Pinned := { name := "ytjelgoeamaejmaagreat", sum := "5bb6bdbf4706fabf48bf6918b5d0861df2d75fad0ff1fda3d23179e4821005dc", checked := Tryz.checked }
namespace Rows
def none {H : Type} : Left H := { results := [], args := [] }

/-- 'ullagelaw18.DenoteMatches': WHATEVER THE INPUT: true; the input reads as it did. -/
def denoteMatchesSpec : ChangeSpec := { name := "denoteMatches", fn := fun _ => fun
  | [d1, d2, d3] => { results := [.lit (.bool true)], args := [d1, d2, d3] }
  | _ => none }
def denoteMatchesRow : OpenClaim := { program := "ytjelgoeamaejmaagreat", sum := "5bb6bdbf4706fabf48bf6918b5d0861df2d75fad0ff1fda3d23179e4821005dc", func := "ullage/ullagelaw18.DenoteMatches", spec := "denoteMatches", inPlace := ["internal/bytealg.abigen_runtime_cmpstring", "internal/bytealg.Compare"], unfollowed := true, recurses := true, loops := true, apart := false }
def DenoteMatchesSaid : Prop := denoteMatchesRow.holds Tryz.pinned (OpenSpec.ofChange denoteMatchesSpec)

/-- ITS FALSE NEIGHBOUR: 'it returns false'. Refute it at one input. -/
def denoteMatchesWrong : ChangeSpec := { name := "denoteMatches", fn := fun _ => fun
  | [d1, d2, d3] => { results := [.lit (.bool false)], args := [d1, d2, d3] }
  | _ => none }
def DenoteMatchesWrongFalsely : Prop := denoteMatchesRow.holds Tryz.pinned (OpenSpec.ofChange denoteMatchesWrong)

/-- 'ullagelaw18.DenoteBounds': WHATEVER THE INPUT: true; the input reads as it did. -/
def denoteBoundsSpec : ChangeSpec := { name := "denoteBounds", fn := fun _ => fun
  | [d1, d2, d3, d4, d5] => { results := [.lit (.bool true)], args := [d1, d2, d3, d4, d5] }
  | _ => none }
def denoteBoundsRow : OpenClaim := { program := "ytjelgoeamaejmaagreat", sum := "5bb6bdbf4706fabf48bf6918b5d0861df2d75fad0ff1fda3d23179e4821005dc", func := "ullage/ullagelaw18.DenoteBounds", spec := "denoteBounds", inPlace := ["internal/bytealg.abigen_runtime_cmpstring", "internal/bytealg.Compare"], unfollowed := true, recurses := true, loops := true, apart := false }
def DenoteBoundsSaid : Prop := denoteBoundsRow.holds Tryz.pinned (OpenSpec.ofChange denoteBoundsSpec)

/-- ITS FALSE NEIGHBOUR: 'it returns false'. Refute it at one input. -/
def denoteBoundsWrong : ChangeSpec := { name := "denoteBounds", fn := fun _ => fun
  | [d1, d2, d3, d4, d5] => { results := [.lit (.bool false)], args := [d1, d2, d3, d4, d5] }
  | _ => none }
def DenoteBoundsWrongFalsely : Prop := denoteBoundsRow.holds Tryz.pinned (OpenSpec.ofChange denoteBoundsWrong)

/-- 'ullagelaw18.DenoteNumbers': WHATEVER THE INPUT: true; the input reads as it did. -/
def denoteNumbersSpec : ChangeSpec := { name := "denoteNumbers", fn := fun _ => fun
  | [d1, d2, d3] => { results := [.lit (.bool true)], args := [d1, d2, d3] }
  | _ => none }
def denoteNumbersRow : OpenClaim := { program := "ytjelgoeamaejmaagreat", sum := "5bb6bdbf4706fabf48bf6918b5d0861df2d75fad0ff1fda3d23179e4821005dc", func := "ullage/ullagelaw18.DenoteNumbers", spec := "denoteNumbers", inPlace := ["internal/bytealg.abigen_runtime_cmpstring", "internal/bytealg.Compare"], unfollowed := true, recurses := true, apart := false }
def DenoteNumbersSaid : Prop := denoteNumbersRow.holds Tryz.pinned (OpenSpec.ofChange denoteNumbersSpec)

/-- ITS FALSE NEIGHBOUR: 'it returns false'. Refute it at one input. -/
def denoteNumbersWrong : ChangeSpec := { name := "denoteNumbers", fn := fun _ => fun
  | [d1, d2, d3] => { results := [.lit (.bool false)], args := [d1, d2, d3] }
  | _ => none }
def DenoteNumbersWrongFalsely : Prop := denoteNumbersRow.holds Tryz.pinned (OpenSpec.ofChange denoteNumbersWrong)

/- THE SECOND FORM. 'bulk': how many values and letters a reading holds, each counted each time it is reached (what is shared counts as often as it is met; a slice's spare places count too). A statement '..UptoSaid' is the law's where the arguments, and the package variables that the reading takes, are together of bulk at most 1048576: NARROWER than '..Said'. Prove '..Said' where nothing that the law and all that it calls make is longer than what came in: it says more and counts as full. Else prove '..UptoSaid'. A law counts once. -/
mutual
def uptoBulk {H : Type} : DataW H → Nat
  | .lit (.string bytes) => bytes.length + 1
  | .lit _ => 1
  | .nil => 1
  | .ptr d => uptoBulk d + 1
  | .slice elems spare => uptoBulkAll elems + uptoBulkAll spare + 1
  | .agg parts => uptoBulkAll parts + 1
  | .iface _ d => uptoBulk d + 1
  | .map entries => uptoBulkEntries entries + 1
  | .held _ => 1
def uptoBulkAll {H : Type} : List (DataW H) → Nat
  | [] => 0
  | d :: r => uptoBulk d + uptoBulkAll r
def uptoBulkEntries {H : Type} : List (Lit × DataW H) → Nat
  | [] => 0
  | x :: r => uptoBulkEntry x + uptoBulkEntries r
def uptoBulkEntry {H : Type} : Lit × DataW H → Nat
  | (.string bytes, d) => bytes.length + uptoBulk d + 1
  | (_, d) => uptoBulk d + 1
 end
def uptoSmall : (H : Type) → List (DataW H) → Bool := fun _ ds => decide (uptoBulkAll ds ≤ 1048576)
def OpenSpec.upto (s : _root_.Go.ChangeSpec) : _root_.Go.OpenSpec := { _root_.Go.OpenSpec.ofChange s with cond := some uptoSmall }

/-- 'ullagelaw18.DenoteMatches', WHERE WHAT IT READS IS OF BULK AT MOST 1048576: true; the input reads as it did. -/
def denoteMatchesUptoRow : OpenClaim := { program := "ytjelgoeamaejmaagreat", sum := "5bb6bdbf4706fabf48bf6918b5d0861df2d75fad0ff1fda3d23179e4821005dc", func := "ullage/ullagelaw18.DenoteMatches", spec := "denoteMatches", inPlace := ["internal/bytealg.abigen_runtime_cmpstring", "internal/bytealg.Compare"], unfollowed := true, recurses := true, loops := true, apart := false, narrowed := true }
def DenoteMatchesUptoSaid : Prop := denoteMatchesUptoRow.holds Tryz.pinned (OpenSpec.upto denoteMatchesSpec)

/-- 'ullagelaw18.DenoteBounds', WHERE WHAT IT READS IS OF BULK AT MOST 1048576: true; the input reads as it did. -/
def denoteBoundsUptoRow : OpenClaim := { program := "ytjelgoeamaejmaagreat", sum := "5bb6bdbf4706fabf48bf6918b5d0861df2d75fad0ff1fda3d23179e4821005dc", func := "ullage/ullagelaw18.DenoteBounds", spec := "denoteBounds", inPlace := ["internal/bytealg.abigen_runtime_cmpstring", "internal/bytealg.Compare"], unfollowed := true, recurses := true, loops := true, apart := false, narrowed := true }
def DenoteBoundsUptoSaid : Prop := denoteBoundsUptoRow.holds Tryz.pinned (OpenSpec.upto denoteBoundsSpec)

/-- 'ullagelaw18.DenoteNumbers', WHERE WHAT IT READS IS OF BULK AT MOST 1048576: true; the input reads as it did. -/
def denoteNumbersUptoRow : OpenClaim := { program := "ytjelgoeamaejmaagreat", sum := "5bb6bdbf4706fabf48bf6918b5d0861df2d75fad0ff1fda3d23179e4821005dc", func := "ullage/ullagelaw18.DenoteNumbers", spec := "denoteNumbers", inPlace := ["internal/bytealg.abigen_runtime_cmpstring", "internal/bytealg.Compare"], unfollowed := true, recurses := true, apart := false, narrowed := true }
def DenoteNumbersUptoSaid : Prop := denoteNumbersUptoRow.holds Tryz.pinned (OpenSpec.upto denoteNumbersSpec)

end Rows
end Go.Proofs.YtjelgoeamaejmaaGreat
