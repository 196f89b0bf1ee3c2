/-
  NARROWER THAN 'FOR EVERY INPUT', by the rows' own cells (each row's printed sentence says how): TermLevels: loops · TermArrows: loops · TermMakes: loops · TermRights: loops · BindAnswers: loops · BindBack: loops · BindSteps: loops · BindNames: loops · BindUses: loops · BindOccurs: loops.
  DERIVED. THE GIVEN ROWS OF THIS SEAT. 10 by the template 'for every input the law returns true; each argument reads behind the call as it read before'; 0 by the template 'total and deterministic' (their statements: YtfhblaggeahbjaaTotals.lean).
  GIVEN WITH THE SEED: the statements are not yours to turn. If you find one false, say at which input.
  Laid BY PROGRAM, IN A SANDBOX (cutbox-rows.mjs): the forced cells as the released guide's own fill.sh prints them over the translation f1d8b82e7aa429f9… (all of the seat's roots in one cut). By AI agents, Wed Nov 11 2026. No macro, syntax, notation, axiom, sorry.
-/
import Derived.Test.YtfhblaggeahbjaaChecked
import GoSem.Claim
import GoSem.ClaimJoined
import GoSem.ClaimMapViews
import Derived.JoinedTies
import Derived.KernelRfl
namespace Go.Proofs.Ytfhblaggeahbjaa
/- THE CELL 'sum', in the pinned program and in every row, IS THE sha256 OF THE DUMP (.gsa) THAT YtfhblaggeahbjaaProg.lean LOADS. Nothing in Lean hashes anything: it is a label: what it is worth is what the hold of that sum in a sandbox is worth. -/
noncomputable def Try.pinned : Pinned := { name := "ytfhblaggeahbjaa", sum := "f1d8b82e7aa429f9e6d019fa805cdf55a1451c293a35c8bf734068dffd2b859b", checked := Try.checked }
namespace Rows
def none {H : Type} : Left H := { results := [], args := [] }

/-- 'scholiumlaw04.TermLevels': WHATEVER THE INPUT: true; the input reads as it did. -/
def termLevelsSpec : ChangeSpec := { name := "termLevels", fn := fun _ => fun
  | [d1, d2, d3] => { results := [.lit (.bool true)], args := [d1, d2, d3] }
  | _ => none }
def termLevelsRow : OpenClaim := { program := "ytfhblaggeahbjaa", sum := "f1d8b82e7aa429f9e6d019fa805cdf55a1451c293a35c8bf734068dffd2b859b", func := "scholium/scholiumlaw04.TermLevels", spec := "termLevels", unfollowed := true, recurses := true, loops := true, apart := false }
def TermLevelsSaid : Prop := termLevelsRow.holds Try.pinned (OpenSpec.ofChange termLevelsSpec)

/-- ITS FALSE NEIGHBOUR: 'it returns false'. Refute it at one input. -/
def termLevelsWrong : ChangeSpec := { name := "termLevels", fn := fun _ => fun
  | [d1, d2, d3] => { results := [.lit (.bool false)], args := [d1, d2, d3] }
  | _ => none }
def TermLevelsWrongFalsely : Prop := termLevelsRow.holds Try.pinned (OpenSpec.ofChange termLevelsWrong)

/-- 'scholiumlaw04.TermArrows': WHATEVER THE INPUT: true; the input reads as it did. -/
def termArrowsSpec : ChangeSpec := { name := "termArrows", fn := fun _ => fun
  | [d1, d2] => { results := [.lit (.bool true)], args := [d1, d2] }
  | _ => none }
def termArrowsRow : OpenClaim := { program := "ytfhblaggeahbjaa", sum := "f1d8b82e7aa429f9e6d019fa805cdf55a1451c293a35c8bf734068dffd2b859b", func := "scholium/scholiumlaw04.TermArrows", spec := "termArrows", unfollowed := true, recurses := true, loops := true, apart := false }
def TermArrowsSaid : Prop := termArrowsRow.holds Try.pinned (OpenSpec.ofChange termArrowsSpec)

/-- ITS FALSE NEIGHBOUR: 'it returns false'. Refute it at one input. -/
def termArrowsWrong : ChangeSpec := { name := "termArrows", fn := fun _ => fun
  | [d1, d2] => { results := [.lit (.bool false)], args := [d1, d2] }
  | _ => none }
def TermArrowsWrongFalsely : Prop := termArrowsRow.holds Try.pinned (OpenSpec.ofChange termArrowsWrong)

/-- 'scholiumlaw04.TermMakes': WHATEVER THE INPUT: true; the input reads as it did. -/
def termMakesSpec : ChangeSpec := { name := "termMakes", fn := fun _ => fun
  | [d1, d2, d3] => { results := [.lit (.bool true)], args := [d1, d2, d3] }
  | _ => none }
def termMakesRow : OpenClaim := { program := "ytfhblaggeahbjaa", sum := "f1d8b82e7aa429f9e6d019fa805cdf55a1451c293a35c8bf734068dffd2b859b", func := "scholium/scholiumlaw04.TermMakes", spec := "termMakes", unfollowed := true, recurses := true, loops := true, apart := false }
def TermMakesSaid : Prop := termMakesRow.holds Try.pinned (OpenSpec.ofChange termMakesSpec)

/-- ITS FALSE NEIGHBOUR: 'it returns false'. Refute it at one input. -/
def termMakesWrong : ChangeSpec := { name := "termMakes", fn := fun _ => fun
  | [d1, d2, d3] => { results := [.lit (.bool false)], args := [d1, d2, d3] }
  | _ => none }
def TermMakesWrongFalsely : Prop := termMakesRow.holds Try.pinned (OpenSpec.ofChange termMakesWrong)

/-- 'scholiumlaw04.TermRights': WHATEVER THE INPUT: true; the input reads as it did. -/
def termRightsSpec : ChangeSpec := { name := "termRights", fn := fun _ => fun
  | [d1, d2, d3, d4] => { results := [.lit (.bool true)], args := [d1, d2, d3, d4] }
  | _ => none }
def termRightsRow : OpenClaim := { program := "ytfhblaggeahbjaa", sum := "f1d8b82e7aa429f9e6d019fa805cdf55a1451c293a35c8bf734068dffd2b859b", func := "scholium/scholiumlaw04.TermRights", spec := "termRights", unfollowed := true, recurses := true, loops := true, apart := false }
def TermRightsSaid : Prop := termRightsRow.holds Try.pinned (OpenSpec.ofChange termRightsSpec)

/-- ITS FALSE NEIGHBOUR: 'it returns false'. Refute it at one input. -/
def termRightsWrong : ChangeSpec := { name := "termRights", fn := fun _ => fun
  | [d1, d2, d3, d4] => { results := [.lit (.bool false)], args := [d1, d2, d3, d4] }
  | _ => none }
def TermRightsWrongFalsely : Prop := termRightsRow.holds Try.pinned (OpenSpec.ofChange termRightsWrong)

/-- 'scholiumlaw06.BindAnswers': WHATEVER THE INPUT: true; the input reads as it did. -/
def bindAnswersSpec : ChangeSpec := { name := "bindAnswers", fn := fun _ => fun
  | [d1, d2, d3, d4, d5] => { results := [.lit (.bool true)], args := [d1, d2, d3, d4, d5] }
  | _ => none }
def bindAnswersRow : OpenClaim := { program := "ytfhblaggeahbjaa", sum := "f1d8b82e7aa429f9e6d019fa805cdf55a1451c293a35c8bf734068dffd2b859b", func := "scholium/scholiumlaw06.BindAnswers", spec := "bindAnswers", unfollowed := true, recurses := true, loops := true, apart := false }
def BindAnswersSaid : Prop := bindAnswersRow.holds Try.pinned (OpenSpec.ofChange bindAnswersSpec)

/-- ITS FALSE NEIGHBOUR: 'it returns false'. Refute it at one input. -/
def bindAnswersWrong : ChangeSpec := { name := "bindAnswers", fn := fun _ => fun
  | [d1, d2, d3, d4, d5] => { results := [.lit (.bool false)], args := [d1, d2, d3, d4, d5] }
  | _ => none }
def BindAnswersWrongFalsely : Prop := bindAnswersRow.holds Try.pinned (OpenSpec.ofChange bindAnswersWrong)

/-- 'scholiumlaw06.BindBack': WHATEVER THE INPUT: true; the input reads as it did. -/
def bindBackSpec : ChangeSpec := { name := "bindBack", fn := fun _ => fun
  | [d1, d2, d3, d4] => { results := [.lit (.bool true)], args := [d1, d2, d3, d4] }
  | _ => none }
def bindBackRow : OpenClaim := { program := "ytfhblaggeahbjaa", sum := "f1d8b82e7aa429f9e6d019fa805cdf55a1451c293a35c8bf734068dffd2b859b", func := "scholium/scholiumlaw06.BindBack", spec := "bindBack", unfollowed := true, recurses := true, loops := true, apart := false }
def BindBackSaid : Prop := bindBackRow.holds Try.pinned (OpenSpec.ofChange bindBackSpec)

/-- ITS FALSE NEIGHBOUR: 'it returns false'. Refute it at one input. -/
def bindBackWrong : ChangeSpec := { name := "bindBack", fn := fun _ => fun
  | [d1, d2, d3, d4] => { results := [.lit (.bool false)], args := [d1, d2, d3, d4] }
  | _ => none }
def BindBackWrongFalsely : Prop := bindBackRow.holds Try.pinned (OpenSpec.ofChange bindBackWrong)

/-- 'scholiumlaw06.BindSteps': WHATEVER THE INPUT: true; the input reads as it did. -/
def bindStepsSpec : ChangeSpec := { name := "bindSteps", fn := fun _ => fun
  | [d1, d2, d3] => { results := [.lit (.bool true)], args := [d1, d2, d3] }
  | _ => none }
def bindStepsRow : OpenClaim := { program := "ytfhblaggeahbjaa", sum := "f1d8b82e7aa429f9e6d019fa805cdf55a1451c293a35c8bf734068dffd2b859b", func := "scholium/scholiumlaw06.BindSteps", spec := "bindSteps", unfollowed := true, recurses := true, loops := true, apart := false }
def BindStepsSaid : Prop := bindStepsRow.holds Try.pinned (OpenSpec.ofChange bindStepsSpec)

/-- ITS FALSE NEIGHBOUR: 'it returns false'. Refute it at one input. -/
def bindStepsWrong : ChangeSpec := { name := "bindSteps", fn := fun _ => fun
  | [d1, d2, d3] => { results := [.lit (.bool false)], args := [d1, d2, d3] }
  | _ => none }
def BindStepsWrongFalsely : Prop := bindStepsRow.holds Try.pinned (OpenSpec.ofChange bindStepsWrong)

/-- 'scholiumlaw06.BindNames': WHATEVER THE INPUT: true; the input reads as it did. -/
def bindNamesSpec : ChangeSpec := { name := "bindNames", fn := fun _ => fun
  | [d1, d2] => { results := [.lit (.bool true)], args := [d1, d2] }
  | _ => none }
def bindNamesRow : OpenClaim := { program := "ytfhblaggeahbjaa", sum := "f1d8b82e7aa429f9e6d019fa805cdf55a1451c293a35c8bf734068dffd2b859b", func := "scholium/scholiumlaw06.BindNames", spec := "bindNames", unfollowed := true, recurses := true, loops := true, apart := false }
def BindNamesSaid : Prop := bindNamesRow.holds Try.pinned (OpenSpec.ofChange bindNamesSpec)

/-- ITS FALSE NEIGHBOUR: 'it returns false'. Refute it at one input. -/
def bindNamesWrong : ChangeSpec := { name := "bindNames", fn := fun _ => fun
  | [d1, d2] => { results := [.lit (.bool false)], args := [d1, d2] }
  | _ => none }
def BindNamesWrongFalsely : Prop := bindNamesRow.holds Try.pinned (OpenSpec.ofChange bindNamesWrong)

/-- 'scholiumlaw06.BindUses': WHATEVER THE INPUT: true; the input reads as it did. -/
def bindUsesSpec : ChangeSpec := { name := "bindUses", fn := fun _ => fun
  | [d1, d2, d3] => { results := [.lit (.bool true)], args := [d1, d2, d3] }
  | _ => none }
def bindUsesRow : OpenClaim := { program := "ytfhblaggeahbjaa", sum := "f1d8b82e7aa429f9e6d019fa805cdf55a1451c293a35c8bf734068dffd2b859b", func := "scholium/scholiumlaw06.BindUses", spec := "bindUses", unfollowed := true, recurses := true, loops := true, apart := false }
def BindUsesSaid : Prop := bindUsesRow.holds Try.pinned (OpenSpec.ofChange bindUsesSpec)

/-- ITS FALSE NEIGHBOUR: 'it returns false'. Refute it at one input. -/
def bindUsesWrong : ChangeSpec := { name := "bindUses", fn := fun _ => fun
  | [d1, d2, d3] => { results := [.lit (.bool false)], args := [d1, d2, d3] }
  | _ => none }
def BindUsesWrongFalsely : Prop := bindUsesRow.holds Try.pinned (OpenSpec.ofChange bindUsesWrong)

/-- 'scholiumlaw06.BindOccurs': WHATEVER THE INPUT: true; the input reads as it did. -/
def bindOccursSpec : ChangeSpec := { name := "bindOccurs", fn := fun _ => fun
  | [d1, d2, d3] => { results := [.lit (.bool true)], args := [d1, d2, d3] }
  | _ => none }
def bindOccursRow : OpenClaim := { program := "ytfhblaggeahbjaa", sum := "f1d8b82e7aa429f9e6d019fa805cdf55a1451c293a35c8bf734068dffd2b859b", func := "scholium/scholiumlaw06.BindOccurs", spec := "bindOccurs", unfollowed := true, recurses := true, loops := true, apart := false }
def BindOccursSaid : Prop := bindOccursRow.holds Try.pinned (OpenSpec.ofChange bindOccursSpec)

/-- ITS FALSE NEIGHBOUR: 'it returns false'. Refute it at one input. -/
def bindOccursWrong : ChangeSpec := { name := "bindOccurs", fn := fun _ => fun
  | [d1, d2, d3] => { results := [.lit (.bool false)], args := [d1, d2, d3] }
  | _ => none }
def BindOccursWrongFalsely : Prop := bindOccursRow.holds Try.pinned (OpenSpec.ofChange bindOccursWrong)

/- THE SECOND FORM. 'bulk': how many values and letters a reading holds, each counted each time it is reached (what is shared counts as often as it is met; a slice's spare places count too). A statement '..UptoSaid' is the law's where the arguments, and the package variables that the reading takes, are together of bulk at most 1048576: NARROWER than '..Said'. Prove '..Said' where nothing that the law and all that it calls make is longer than what came in: it says more and counts as full. Else prove '..UptoSaid'. A law counts once. -/
mutual
def uptoBulk {H : Type} : DataW H → Nat
  | .lit (.string bytes) => bytes.length + 1
  | .lit _ => 1
  | .nil => 1
  | .ptr d => uptoBulk d + 1
  | .slice elems spare => uptoBulkAll elems + uptoBulkAll spare + 1
  | .agg parts => uptoBulkAll parts + 1
  | .iface _ d => uptoBulk d + 1
  | .map entries => uptoBulkEntries entries + 1
  | .held _ => 1
def uptoBulkAll {H : Type} : List (DataW H) → Nat
  | [] => 0
  | d :: r => uptoBulk d + uptoBulkAll r
def uptoBulkEntries {H : Type} : List (Lit × DataW H) → Nat
  | [] => 0
  | x :: r => uptoBulkEntry x + uptoBulkEntries r
def uptoBulkEntry {H : Type} : Lit × DataW H → Nat
  | (.string bytes, d) => bytes.length + uptoBulk d + 1
  | (_, d) => uptoBulk d + 1
 end
def uptoSmall : (H : Type) → List (DataW H) → Bool := fun _ ds => decide (uptoBulkAll ds ≤ 1048576)
def OpenSpec.upto (s : _root_.Go.ChangeSpec) : _root_.Go.OpenSpec := { _root_.Go.OpenSpec.ofChange s with cond := some uptoSmall }

/-- 'scholiumlaw04.TermLevels', WHERE WHAT IT READS IS OF BULK AT MOST 1048576: true; the input reads as it did. -/
def termLevelsUptoRow : OpenClaim := { program := "ytfhblaggeahbjaa", sum := "f1d8b82e7aa429f9e6d019fa805cdf55a1451c293a35c8bf734068dffd2b859b", func := "scholium/scholiumlaw04.TermLevels", spec := "termLevels", unfollowed := true, recurses := true, loops := true, apart := false, narrowed := true }
def TermLevelsUptoSaid : Prop := termLevelsUptoRow.holds Try.pinned (OpenSpec.upto termLevelsSpec)

/-- 'scholiumlaw04.TermArrows', WHERE WHAT IT READS IS OF BULK AT MOST 1048576: true; the input reads as it did. -/
def termArrowsUptoRow : OpenClaim := { program := "ytfhblaggeahbjaa", sum := "f1d8b82e7aa429f9e6d019fa805cdf55a1451c293a35c8bf734068dffd2b859b", func := "scholium/scholiumlaw04.TermArrows", spec := "termArrows", unfollowed := true, recurses := true, loops := true, apart := false, narrowed := true }
def TermArrowsUptoSaid : Prop := termArrowsUptoRow.holds Try.pinned (OpenSpec.upto termArrowsSpec)

/-- 'scholiumlaw04.TermMakes', WHERE WHAT IT READS IS OF BULK AT MOST 1048576: true; the input reads as it did. -/
def termMakesUptoRow : OpenClaim := { program := "ytfhblaggeahbjaa", sum := "f1d8b82e7aa429f9e6d019fa805cdf55a1451c293a35c8bf734068dffd2b859b", func := "scholium/scholiumlaw04.TermMakes", spec := "termMakes", unfollowed := true, recurses := true, loops := true, apart := false, narrowed := true }
def TermMakesUptoSaid : Prop := termMakesUptoRow.holds Try.pinned (OpenSpec.upto termMakesSpec)

/-- 'scholiumlaw04.TermRights', WHERE WHAT IT READS IS OF BULK AT MOST 1048576: true; the input reads as it did. -/
def termRightsUptoRow : OpenClaim := { program := "ytfhblaggeahbjaa", sum := "f1d8b82e7aa429f9e6d019fa805cdf55a1451c293a35c8bf734068dffd2b859b", func := "scholium/scholiumlaw04.TermRights", spec := "termRights", unfollowed := true, recurses := true, loops := true, apart := false, narrowed := true }
def TermRightsUptoSaid : Prop := termRightsUptoRow.holds Try.pinned (OpenSpec.upto termRightsSpec)

/-- 'scholiumlaw06.BindAnswers', WHERE WHAT IT READS IS OF BULK AT MOST 1048576: true; the input reads as it did. -/
def bindAnswersUptoRow : OpenClaim := { program := "ytfhblaggeahbjaa", sum := "f1d8b82e7aa429f9e6d019fa805cdf55a1451c293a35c8bf734068dffd2b859b", func := "scholium/scholiumlaw06.BindAnswers", spec := "bindAnswers", unfollowed := true, recurses := true, loops := true, apart := false, narrowed := true }
def BindAnswersUptoSaid : Prop := bindAnswersUptoRow.holds Try.pinned (OpenSpec.upto bindAnswersSpec)

/-- 'scholiumlaw06.BindBack', WHERE WHAT IT READS IS OF BULK AT MOST 1048576: true; the input reads as it did. -/
def bindBackUptoRow : OpenClaim := { program := "ytfhblaggeahbjaa", sum := "f1d8b82e7aa429f9e6d019fa805cdf55a1451c293a35c8bf734068dffd2b859b", func := "scholium/scholiumlaw06.BindBack", spec := "bindBack", unfollowed := true, recurses := true, loops := true, apart := false, narrowed := true }
def BindBackUptoSaid : Prop := bindBackUptoRow.holds Try.pinned (OpenSpec.upto bindBackSpec)

/-- 'scholiumlaw06.BindSteps', WHERE WHAT IT READS IS OF BULK AT MOST 1048576: true; the input reads as it did. -/
def bindStepsUptoRow : OpenClaim := { program := "ytfhblaggeahbjaa", sum := "f1d8b82e7aa429f9e6d019fa805cdf55a1451c293a35c8bf734068dffd2b859b", func := "scholium/scholiumlaw06.BindSteps", spec := "bindSteps", unfollowed := true, recurses := true, loops := true, apart := false, narrowed := true }
def BindStepsUptoSaid : Prop := bindStepsUptoRow.holds Try.pinned (OpenSpec.upto bindStepsSpec)

/-- 'scholiumlaw06.BindNames', WHERE WHAT IT READS IS OF BULK AT MOST 1048576: true; the input reads as it did. -/
def bindNamesUptoRow : OpenClaim := { program := "ytfhblaggeahbjaa", sum := "f1d8b82e7aa429f9e6d019fa805cdf55a1451c293a35c8bf734068dffd2b859b", func := "scholium/scholiumlaw06.BindNames", spec := "bindNames", unfollowed := true, recurses := true, loops := true, apart := false, narrowed := true }
def BindNamesUptoSaid : Prop := bindNamesUptoRow.holds Try.pinned (OpenSpec.upto bindNamesSpec)

/-- 'scholiumlaw06.BindUses', WHERE WHAT IT READS IS OF BULK AT MOST 1048576: true; the input reads as it did. -/
def bindUsesUptoRow : OpenClaim := { program := "ytfhblaggeahbjaa", sum := "f1d8b82e7aa429f9e6d019fa805cdf55a1451c293a35c8bf734068dffd2b859b", func := "scholium/scholiumlaw06.BindUses", spec := "bindUses", unfollowed := true, recurses := true, loops := true, apart := false, narrowed := true }
def BindUsesUptoSaid : Prop := bindUsesUptoRow.holds Try.pinned (OpenSpec.upto bindUsesSpec)

/-- 'scholiumlaw06.BindOccurs', WHERE WHAT IT READS IS OF BULK AT MOST 1048576: true; the input reads as it did. -/
def bindOccursUptoRow : OpenClaim := { program := "ytfhblaggeahbjaa", sum := "f1d8b82e7aa429f9e6d019fa805cdf55a1451c293a35c8bf734068dffd2b859b", func := "scholium/scholiumlaw06.BindOccurs", spec := "bindOccurs", unfollowed := true, recurses := true, loops := true, apart := false, narrowed := true }
def BindOccursUptoSaid : Prop := bindOccursUptoRow.holds Try.pinned (OpenSpec.upto bindOccursSpec)

end Rows
end Go.Proofs.Ytfhblaggeahbjaa
