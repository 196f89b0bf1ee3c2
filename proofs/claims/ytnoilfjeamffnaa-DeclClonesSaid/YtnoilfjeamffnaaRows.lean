/-
  NARROWER THAN 'FOR EVERY INPUT', by the rows' own cells (each row's printed sentence says how): DeclPlains: loops · DeclClones: loops · DeclKinds: loops.
  DERIVED. THE GIVEN ROWS OF THIS SEAT. 3 by the template 'for every input the law returns true; each argument reads behind the call as it read before'; 0 by the template 'total and deterministic' (their statements: YtnoilfjeamffnaaTotals.lean).
  GIVEN WITH THE SEED: the statements are not yours to turn. If you find one false, say at which input.
  Laid BY PROGRAM, IN A SANDBOX (cutbox-rows.mjs): the forced cells as the released guide's own fill.sh prints them over the translation 8eb77e58f4eced0d… (all of the seat's roots in one cut). By AI agents, Wed Nov 11 2026. No macro, syntax, notation, axiom, sorry.
-/
import Derived.Test.YtnoilfjeamffnaaChecked
import GoSem.Claim
import GoSem.ClaimJoined
import GoSem.ClaimMapViews
import Derived.JoinedTies
import Derived.KernelRfl
namespace Go.Proofs.Ytnoilfjeamffnaa
/- THE CELL 'sum', in the pinned program and in every row, IS THE sha256 OF THE DUMP (.gsa) THAT YtnoilfjeamffnaaProg.lean LOADS. Nothing in Lean hashes anything: it is a label: what it is worth is what the hold of that sum in a sandbox is worth. -/
noncomputable def Try.pinned : Pinned := { name := "ytnoilfjeamffnaa", sum := "8eb77e58f4eced0d8337165625643ea00005a2bd3c1f6c94600647d804e00025", checked := Try.checked }
namespace Rows
def none {H : Type} : Left H := { results := [], args := [] }

/-- 'scholiumlaw11.DeclPlains': WHATEVER THE INPUT: true; the input reads as it did. -/
def declPlainsSpec : ChangeSpec := { name := "declPlains", fn := fun _ => fun
  | [d1, d2] => { results := [.lit (.bool true)], args := [d1, d2] }
  | _ => none }
def declPlainsRow : OpenClaim := { program := "ytnoilfjeamffnaa", sum := "8eb77e58f4eced0d8337165625643ea00005a2bd3c1f6c94600647d804e00025", func := "scholium/scholiumlaw11.DeclPlains", spec := "declPlains", unfollowed := true, recurses := true, loops := true, apart := false }
def DeclPlainsSaid : Prop := declPlainsRow.holds Try.pinned (OpenSpec.ofChange declPlainsSpec)

/-- ITS FALSE NEIGHBOUR: 'it returns false'. Refute it at one input. -/
def declPlainsWrong : ChangeSpec := { name := "declPlains", fn := fun _ => fun
  | [d1, d2] => { results := [.lit (.bool false)], args := [d1, d2] }
  | _ => none }
def DeclPlainsWrongFalsely : Prop := declPlainsRow.holds Try.pinned (OpenSpec.ofChange declPlainsWrong)

/-- 'scholiumlaw11.DeclClones': WHATEVER THE INPUT: true; the input reads as it did. -/
def declClonesSpec : ChangeSpec := { name := "declClones", fn := fun _ => fun
  | [d] => { results := [.lit (.bool true)], args := [d] }
  | _ => none }
def declClonesRow : OpenClaim := { program := "ytnoilfjeamffnaa", sum := "8eb77e58f4eced0d8337165625643ea00005a2bd3c1f6c94600647d804e00025", func := "scholium/scholiumlaw11.DeclClones", spec := "declClones", unfollowed := true, recurses := true, loops := true, apart := false }
def DeclClonesSaid : Prop := declClonesRow.holds Try.pinned (OpenSpec.ofChange declClonesSpec)

/-- ITS FALSE NEIGHBOUR: 'it returns false'. Refute it at one input. -/
def declClonesWrong : ChangeSpec := { name := "declClones", fn := fun _ => fun
  | [d] => { results := [.lit (.bool false)], args := [d] }
  | _ => none }
def DeclClonesWrongFalsely : Prop := declClonesRow.holds Try.pinned (OpenSpec.ofChange declClonesWrong)

/-- 'scholiumlaw11.DeclKinds': WHATEVER THE INPUT: true; the input reads as it did. -/
def declKindsSpec : ChangeSpec := { name := "declKinds", fn := fun _ => fun
  | [d1, d2] => { results := [.lit (.bool true)], args := [d1, d2] }
  | _ => none }
def declKindsRow : OpenClaim := { program := "ytnoilfjeamffnaa", sum := "8eb77e58f4eced0d8337165625643ea00005a2bd3c1f6c94600647d804e00025", func := "scholium/scholiumlaw11.DeclKinds", spec := "declKinds", unfollowed := true, recurses := true, loops := true, apart := false }
def DeclKindsSaid : Prop := declKindsRow.holds Try.pinned (OpenSpec.ofChange declKindsSpec)

/-- ITS FALSE NEIGHBOUR: 'it returns false'. Refute it at one input. -/
def declKindsWrong : ChangeSpec := { name := "declKinds", fn := fun _ => fun
  | [d1, d2] => { results := [.lit (.bool false)], args := [d1, d2] }
  | _ => none }
def DeclKindsWrongFalsely : Prop := declKindsRow.holds Try.pinned (OpenSpec.ofChange declKindsWrong)

/- THE SECOND FORM. 'bulk': how many values and letters a reading holds, each counted each time it is reached (what is shared counts as often as it is met; a slice's spare places count too). A statement '..UptoSaid' is the law's where the arguments, and the package variables that the reading takes, are together of bulk at most 1048576: NARROWER than '..Said'. Prove '..Said' where nothing that the law and all that it calls make is longer than what came in: it says more and counts as full. Else prove '..UptoSaid'. A law counts once. -/
mutual
def uptoBulk {H : Type} : DataW H → Nat
  | .lit (.string bytes) => bytes.length + 1
  | .lit _ => 1
  | .nil => 1
  | .ptr d => uptoBulk d + 1
  | .slice elems spare => uptoBulkAll elems + uptoBulkAll spare + 1
  | .agg parts => uptoBulkAll parts + 1
  | .iface _ d => uptoBulk d + 1
  | .map entries => uptoBulkEntries entries + 1
  | .held _ => 1
def uptoBulkAll {H : Type} : List (DataW H) → Nat
  | [] => 0
  | d :: r => uptoBulk d + uptoBulkAll r
def uptoBulkEntries {H : Type} : List (Lit × DataW H) → Nat
  | [] => 0
  | x :: r => uptoBulkEntry x + uptoBulkEntries r
def uptoBulkEntry {H : Type} : Lit × DataW H → Nat
  | (.string bytes, d) => bytes.length + uptoBulk d + 1
  | (_, d) => uptoBulk d + 1
 end
def uptoSmall : (H : Type) → List (DataW H) → Bool := fun _ ds => decide (uptoBulkAll ds ≤ 1048576)
def OpenSpec.upto (s : _root_.Go.ChangeSpec) : _root_.Go.OpenSpec := { _root_.Go.OpenSpec.ofChange s with cond := some uptoSmall }

/-- 'scholiumlaw11.DeclPlains', WHERE WHAT IT READS IS OF BULK AT MOST 1048576: true; the input reads as it did. -/
def declPlainsUptoRow : OpenClaim := { program := "ytnoilfjeamffnaa", sum := "8eb77e58f4eced0d8337165625643ea00005a2bd3c1f6c94600647d804e00025", func := "scholium/scholiumlaw11.DeclPlains", spec := "declPlains", unfollowed := true, recurses := true, loops := true, apart := false, narrowed := true }
def DeclPlainsUptoSaid : Prop := declPlainsUptoRow.holds Try.pinned (OpenSpec.upto declPlainsSpec)

/-- 'scholiumlaw11.DeclClones', WHERE WHAT IT READS IS OF BULK AT MOST 1048576: true; the input reads as it did. -/
def declClonesUptoRow : OpenClaim := { program := "ytnoilfjeamffnaa", sum := "8eb77e58f4eced0d8337165625643ea00005a2bd3c1f6c94600647d804e00025", func := "scholium/scholiumlaw11.DeclClones", spec := "declClones", unfollowed := true, recurses := true, loops := true, apart := false, narrowed := true }
def DeclClonesUptoSaid : Prop := declClonesUptoRow.holds Try.pinned (OpenSpec.upto declClonesSpec)

/-- 'scholiumlaw11.DeclKinds', WHERE WHAT IT READS IS OF BULK AT MOST 1048576: true; the input reads as it did. -/
def declKindsUptoRow : OpenClaim := { program := "ytnoilfjeamffnaa", sum := "8eb77e58f4eced0d8337165625643ea00005a2bd3c1f6c94600647d804e00025", func := "scholium/scholiumlaw11.DeclKinds", spec := "declKinds", unfollowed := true, recurses := true, loops := true, apart := false, narrowed := true }
def DeclKindsUptoSaid : Prop := declKindsUptoRow.holds Try.pinned (OpenSpec.upto declKindsSpec)

end Rows
end Go.Proofs.Ytnoilfjeamffnaa
