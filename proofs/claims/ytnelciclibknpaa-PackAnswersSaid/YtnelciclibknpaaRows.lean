/-
  NARROWER THAN 'FOR EVERY INPUT', by the rows' own cells (each row's printed sentence says how): PackAnswers: loops · PackBack: loops · PackHashes: loops · PackTerms: loops.
  DERIVED. THE GIVEN ROWS OF THIS SEAT. 5 by the template 'for every input the law returns true; each argument reads behind the call as it read before'; 0 by the template 'total and deterministic' (their statements: YtnelciclibknpaaTotals.lean).
  GIVEN WITH THE SEED: the statements are not yours to turn. If you find one false, say at which input.
  Laid BY PROGRAM, IN A SANDBOX (cutbox-rows.mjs): the forced cells as the released guide's own fill.sh prints them over the translation 1d94e9dc94e76372… (all of the seat's roots in one cut). By AI agents, Wed Nov 11 2026. No macro, syntax, notation, axiom, sorry.
-/
import Derived.Test.YtnelciclibknpaaChecked
import GoSem.Claim
import GoSem.ClaimJoined
import GoSem.ClaimMapViews
import Derived.JoinedTies
import Derived.KernelRfl
namespace Go.Proofs.Ytnelciclibknpaa
/- THE CELL 'sum', in the pinned program and in every row, IS THE sha256 OF THE DUMP (.gsa) THAT YtnelciclibknpaaProg.lean LOADS. Nothing in Lean hashes anything: it is a label: what it is worth is what the hold of that sum in a sandbox is worth. -/
noncomputable def Try.pinned : Pinned := { name := "ytnelciclibknpaa", sum := "1d94e9dc94e7637282203fb43491e813d7b87103098a20febe10ad0678318500", checked := Try.checked }
namespace Rows
def none {H : Type} : Left H := { results := [], args := [] }

/-- 'scholiumlaw08.PackAnswers': WHATEVER THE INPUT: true; the input reads as it did. -/
def packAnswersSpec : ChangeSpec := { name := "packAnswers", fn := fun _ => fun
  | [d1, d2, d3] => { results := [.lit (.bool true)], args := [d1, d2, d3] }
  | _ => none }
def packAnswersRow : OpenClaim := { program := "ytnelciclibknpaa", sum := "1d94e9dc94e7637282203fb43491e813d7b87103098a20febe10ad0678318500", func := "scholium/scholiumlaw08.PackAnswers", spec := "packAnswers", unfollowed := true, recurses := true, loops := true, apart := false }
def PackAnswersSaid : Prop := packAnswersRow.holds Try.pinned (OpenSpec.ofChange packAnswersSpec)

/-- ITS FALSE NEIGHBOUR: 'it returns false'. Refute it at one input. -/
def packAnswersWrong : ChangeSpec := { name := "packAnswers", fn := fun _ => fun
  | [d1, d2, d3] => { results := [.lit (.bool false)], args := [d1, d2, d3] }
  | _ => none }
def PackAnswersWrongFalsely : Prop := packAnswersRow.holds Try.pinned (OpenSpec.ofChange packAnswersWrong)

/-- 'scholiumlaw08.PackBack': WHATEVER THE INPUT: true; the input reads as it did. -/
def packBackSpec : ChangeSpec := { name := "packBack", fn := fun _ => fun
  | [d1, d2, d3, d4] => { results := [.lit (.bool true)], args := [d1, d2, d3, d4] }
  | _ => none }
def packBackRow : OpenClaim := { program := "ytnelciclibknpaa", sum := "1d94e9dc94e7637282203fb43491e813d7b87103098a20febe10ad0678318500", func := "scholium/scholiumlaw08.PackBack", spec := "packBack", unfollowed := true, recurses := true, loops := true, apart := false }
def PackBackSaid : Prop := packBackRow.holds Try.pinned (OpenSpec.ofChange packBackSpec)

/-- ITS FALSE NEIGHBOUR: 'it returns false'. Refute it at one input. -/
def packBackWrong : ChangeSpec := { name := "packBack", fn := fun _ => fun
  | [d1, d2, d3, d4] => { results := [.lit (.bool false)], args := [d1, d2, d3, d4] }
  | _ => none }
def PackBackWrongFalsely : Prop := packBackRow.holds Try.pinned (OpenSpec.ofChange packBackWrong)

/-- 'scholiumlaw08.PackOne': WHATEVER THE INPUT: true; the input reads as it did. -/
def packOneSpec : ChangeSpec := { name := "packOne", fn := fun _ => fun
  | [d] => { results := [.lit (.bool true)], args := [d] }
  | _ => none }
def packOneRow : OpenClaim := { program := "ytnelciclibknpaa", sum := "1d94e9dc94e7637282203fb43491e813d7b87103098a20febe10ad0678318500", func := "scholium/scholiumlaw08.PackOne", spec := "packOne", unfollowed := true, recurses := true, apart := false }
def PackOneSaid : Prop := packOneRow.holds Try.pinned (OpenSpec.ofChange packOneSpec)

/-- ITS FALSE NEIGHBOUR: 'it returns false'. Refute it at one input. -/
def packOneWrong : ChangeSpec := { name := "packOne", fn := fun _ => fun
  | [d] => { results := [.lit (.bool false)], args := [d] }
  | _ => none }
def PackOneWrongFalsely : Prop := packOneRow.holds Try.pinned (OpenSpec.ofChange packOneWrong)

/-- 'scholiumlaw08.PackHashes': WHATEVER THE INPUT: true; the input reads as it did. -/
def packHashesSpec : ChangeSpec := { name := "packHashes", fn := fun _ => fun
  | [d] => { results := [.lit (.bool true)], args := [d] }
  | _ => none }
def packHashesRow : OpenClaim := { program := "ytnelciclibknpaa", sum := "1d94e9dc94e7637282203fb43491e813d7b87103098a20febe10ad0678318500", func := "scholium/scholiumlaw08.PackHashes", spec := "packHashes", unfollowed := true, recurses := true, loops := true, apart := false }
def PackHashesSaid : Prop := packHashesRow.holds Try.pinned (OpenSpec.ofChange packHashesSpec)

/-- ITS FALSE NEIGHBOUR: 'it returns false'. Refute it at one input. -/
def packHashesWrong : ChangeSpec := { name := "packHashes", fn := fun _ => fun
  | [d] => { results := [.lit (.bool false)], args := [d] }
  | _ => none }
def PackHashesWrongFalsely : Prop := packHashesRow.holds Try.pinned (OpenSpec.ofChange packHashesWrong)

/-- 'scholiumlaw08.PackTerms': WHATEVER THE INPUT: true; the input reads as it did. -/
def packTermsSpec : ChangeSpec := { name := "packTerms", fn := fun _ => fun
  | [d1, d2] => { results := [.lit (.bool true)], args := [d1, d2] }
  | _ => none }
def packTermsRow : OpenClaim := { program := "ytnelciclibknpaa", sum := "1d94e9dc94e7637282203fb43491e813d7b87103098a20febe10ad0678318500", func := "scholium/scholiumlaw08.PackTerms", spec := "packTerms", unfollowed := true, recurses := true, loops := true, apart := false }
def PackTermsSaid : Prop := packTermsRow.holds Try.pinned (OpenSpec.ofChange packTermsSpec)

/-- ITS FALSE NEIGHBOUR: 'it returns false'. Refute it at one input. -/
def packTermsWrong : ChangeSpec := { name := "packTerms", fn := fun _ => fun
  | [d1, d2] => { results := [.lit (.bool false)], args := [d1, d2] }
  | _ => none }
def PackTermsWrongFalsely : Prop := packTermsRow.holds Try.pinned (OpenSpec.ofChange packTermsWrong)

/- THE SECOND FORM. 'bulk': how many values and letters a reading holds, each counted each time it is reached (what is shared counts as often as it is met; a slice's spare places count too). A statement '..UptoSaid' is the law's where the arguments, and the package variables that the reading takes, are together of bulk at most 1048576: NARROWER than '..Said'. Prove '..Said' where nothing that the law and all that it calls make is longer than what came in: it says more and counts as full. Else prove '..UptoSaid'. A law counts once. -/
mutual
def uptoBulk {H : Type} : DataW H → Nat
  | .lit (.string bytes) => bytes.length + 1
  | .lit _ => 1
  | .nil => 1
  | .ptr d => uptoBulk d + 1
  | .slice elems spare => uptoBulkAll elems + uptoBulkAll spare + 1
  | .agg parts => uptoBulkAll parts + 1
  | .iface _ d => uptoBulk d + 1
  | .map entries => uptoBulkEntries entries + 1
  | .held _ => 1
def uptoBulkAll {H : Type} : List (DataW H) → Nat
  | [] => 0
  | d :: r => uptoBulk d + uptoBulkAll r
def uptoBulkEntries {H : Type} : List (Lit × DataW H) → Nat
  | [] => 0
  | x :: r => uptoBulkEntry x + uptoBulkEntries r
def uptoBulkEntry {H : Type} : Lit × DataW H → Nat
  | (.string bytes, d) => bytes.length + uptoBulk d + 1
  | (_, d) => uptoBulk d + 1
 end
def uptoSmall : (H : Type) → List (DataW H) → Bool := fun _ ds => decide (uptoBulkAll ds ≤ 1048576)
def OpenSpec.upto (s : _root_.Go.ChangeSpec) : _root_.Go.OpenSpec := { _root_.Go.OpenSpec.ofChange s with cond := some uptoSmall }

/-- 'scholiumlaw08.PackAnswers', WHERE WHAT IT READS IS OF BULK AT MOST 1048576: true; the input reads as it did. -/
def packAnswersUptoRow : OpenClaim := { program := "ytnelciclibknpaa", sum := "1d94e9dc94e7637282203fb43491e813d7b87103098a20febe10ad0678318500", func := "scholium/scholiumlaw08.PackAnswers", spec := "packAnswers", unfollowed := true, recurses := true, loops := true, apart := false, narrowed := true }
def PackAnswersUptoSaid : Prop := packAnswersUptoRow.holds Try.pinned (OpenSpec.upto packAnswersSpec)

/-- 'scholiumlaw08.PackBack', WHERE WHAT IT READS IS OF BULK AT MOST 1048576: true; the input reads as it did. -/
def packBackUptoRow : OpenClaim := { program := "ytnelciclibknpaa", sum := "1d94e9dc94e7637282203fb43491e813d7b87103098a20febe10ad0678318500", func := "scholium/scholiumlaw08.PackBack", spec := "packBack", unfollowed := true, recurses := true, loops := true, apart := false, narrowed := true }
def PackBackUptoSaid : Prop := packBackUptoRow.holds Try.pinned (OpenSpec.upto packBackSpec)

/-- 'scholiumlaw08.PackOne', WHERE WHAT IT READS IS OF BULK AT MOST 1048576: true; the input reads as it did. -/
def packOneUptoRow : OpenClaim := { program := "ytnelciclibknpaa", sum := "1d94e9dc94e7637282203fb43491e813d7b87103098a20febe10ad0678318500", func := "scholium/scholiumlaw08.PackOne", spec := "packOne", unfollowed := true, recurses := true, apart := false, narrowed := true }
def PackOneUptoSaid : Prop := packOneUptoRow.holds Try.pinned (OpenSpec.upto packOneSpec)

/-- 'scholiumlaw08.PackHashes', WHERE WHAT IT READS IS OF BULK AT MOST 1048576: true; the input reads as it did. -/
def packHashesUptoRow : OpenClaim := { program := "ytnelciclibknpaa", sum := "1d94e9dc94e7637282203fb43491e813d7b87103098a20febe10ad0678318500", func := "scholium/scholiumlaw08.PackHashes", spec := "packHashes", unfollowed := true, recurses := true, loops := true, apart := false, narrowed := true }
def PackHashesUptoSaid : Prop := packHashesUptoRow.holds Try.pinned (OpenSpec.upto packHashesSpec)

/-- 'scholiumlaw08.PackTerms', WHERE WHAT IT READS IS OF BULK AT MOST 1048576: true; the input reads as it did. -/
def packTermsUptoRow : OpenClaim := { program := "ytnelciclibknpaa", sum := "1d94e9dc94e7637282203fb43491e813d7b87103098a20febe10ad0678318500", func := "scholium/scholiumlaw08.PackTerms", spec := "packTerms", unfollowed := true, recurses := true, loops := true, apart := false, narrowed := true }
def PackTermsUptoSaid : Prop := packTermsUptoRow.holds Try.pinned (OpenSpec.upto packTermsSpec)

end Rows
end Go.Proofs.Ytnelciclibknpaa
