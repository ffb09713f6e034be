/-
  No cell of these rows narrows 'for every input' (looked for: loops, veiled, ifaces, maps, wideKeys, modest, calm, conditions, laid).
  DERIVED. THE GIVEN ROWS OF THIS SEAT. 6 by the template 'for every input the law returns true; each argument reads behind the call as it read before'; 0 by the template 'total and deterministic' (their statements: YtloppmepfkkblaaTotals.lean).
  GIVEN WITH THE SEED: the statements are not yours to turn. If you find one false, say at which input.
  Laid BY PROGRAM, IN A SANDBOX (cutbox-rows.mjs): the forced cells as the released guide's own fill.sh prints them over the translation 7af50786c00540c1… (all of the seat's roots in one cut). By AI agents, Wed Nov 11 2026. No macro, syntax, notation, axiom, sorry.
-/
import Derived.Test.YtloppmepfkkblaaChecked
import GoSem.Claim
import GoSem.ClaimJoined
import GoSem.ClaimMapViews
import Derived.JoinedTies
import Derived.KernelRfl
namespace Go.Proofs.Ytloppmepfkkblaa
/- THE CELL 'sum', in the pinned program and in every row, IS THE sha256 OF THE DUMP (.gsa) THAT YtloppmepfkkblaaProg.lean LOADS. Nothing in Lean hashes anything: it is a label: what it is worth is what the hold of that sum in a sandbox is worth. -/
noncomputable def Try.pinned : Pinned := { name := "ytloppmepfkkblaa", sum := "7af50786c00540c125339f0189dd4d6ad22f9c65487cc41e5c556a38a63b60ff", checked := Try.checked }
namespace Rows
def none {H : Type} : Left H := { results := [], args := [] }

/-- 'cloisterkeep.Silent': WHATEVER THE INPUT: true; the input reads as it did. -/
def silentSpec : ChangeSpec := { name := "silent", fn := fun _ => fun
  | [d1, d2, d3] => { results := [.lit (.bool true)], args := [d1, d2, d3] }
  | _ => none }
def silentRow : OpenClaim := { program := "ytloppmepfkkblaa", sum := "7af50786c00540c125339f0189dd4d6ad22f9c65487cc41e5c556a38a63b60ff", func := "cloister/cloisterkeep.Silent", spec := "silent", unfollowed := true, recurses := true, apart := false }
def SilentSaid : Prop := silentRow.holds Try.pinned (OpenSpec.ofChange silentSpec)

/-- ITS FALSE NEIGHBOUR: 'it returns false'. Refute it at one input. -/
def silentWrong : ChangeSpec := { name := "silent", fn := fun _ => fun
  | [d1, d2, d3] => { results := [.lit (.bool false)], args := [d1, d2, d3] }
  | _ => none }
def SilentWrongFalsely : Prop := silentRow.holds Try.pinned (OpenSpec.ofChange silentWrong)

/-- 'cloisterkeep.Refused': WHATEVER THE INPUT: true; the input reads as it did. -/
def refusedSpec : ChangeSpec := { name := "refused", fn := fun _ => fun
  | [d1, d2] => { results := [.lit (.bool true)], args := [d1, d2] }
  | _ => none }
def refusedRow : OpenClaim := { program := "ytloppmepfkkblaa", sum := "7af50786c00540c125339f0189dd4d6ad22f9c65487cc41e5c556a38a63b60ff", func := "cloister/cloisterkeep.Refused", spec := "refused", unfollowed := true, recurses := true, apart := false }
def RefusedSaid : Prop := refusedRow.holds Try.pinned (OpenSpec.ofChange refusedSpec)

/-- ITS FALSE NEIGHBOUR: 'it returns false'. Refute it at one input. -/
def refusedWrong : ChangeSpec := { name := "refused", fn := fun _ => fun
  | [d1, d2] => { results := [.lit (.bool false)], args := [d1, d2] }
  | _ => none }
def RefusedWrongFalsely : Prop := refusedRow.holds Try.pinned (OpenSpec.ofChange refusedWrong)

/-- 'cloisterkeep.Timed': WHATEVER THE INPUT: true; the input reads as it did. -/
def timedSpec : ChangeSpec := { name := "timed", fn := fun _ => fun
  | [d1, d2] => { results := [.lit (.bool true)], args := [d1, d2] }
  | _ => none }
def timedRow : OpenClaim := { program := "ytloppmepfkkblaa", sum := "7af50786c00540c125339f0189dd4d6ad22f9c65487cc41e5c556a38a63b60ff", func := "cloister/cloisterkeep.Timed", spec := "timed", unfollowed := true, recurses := true, apart := false }
def TimedSaid : Prop := timedRow.holds Try.pinned (OpenSpec.ofChange timedSpec)

/-- ITS FALSE NEIGHBOUR: 'it returns false'. Refute it at one input. -/
def timedWrong : ChangeSpec := { name := "timed", fn := fun _ => fun
  | [d1, d2] => { results := [.lit (.bool false)], args := [d1, d2] }
  | _ => none }
def TimedWrongFalsely : Prop := timedRow.holds Try.pinned (OpenSpec.ofChange timedWrong)

/-- 'cloisterkeep.Wiped': WHATEVER THE INPUT: true; the input reads as it did. -/
def wipedSpec : ChangeSpec := { name := "wiped", fn := fun _ => fun
  | [d1, d2, d3, d4] => { results := [.lit (.bool true)], args := [d1, d2, d3, d4] }
  | _ => none }
def wipedRow : OpenClaim := { program := "ytloppmepfkkblaa", sum := "7af50786c00540c125339f0189dd4d6ad22f9c65487cc41e5c556a38a63b60ff", func := "cloister/cloisterkeep.Wiped", spec := "wiped", unfollowed := true, recurses := true, apart := false }
def WipedSaid : Prop := wipedRow.holds Try.pinned (OpenSpec.ofChange wipedSpec)

/-- ITS FALSE NEIGHBOUR: 'it returns false'. Refute it at one input. -/
def wipedWrong : ChangeSpec := { name := "wiped", fn := fun _ => fun
  | [d1, d2, d3, d4] => { results := [.lit (.bool false)], args := [d1, d2, d3, d4] }
  | _ => none }
def WipedWrongFalsely : Prop := wipedRow.holds Try.pinned (OpenSpec.ofChange wipedWrong)

/-- 'cloisterkeep.Ported': WHATEVER THE INPUT: true; the input reads as it did. -/
def portedSpec : ChangeSpec := { name := "ported", fn := fun _ => fun
  | [d1, d2, d3] => { results := [.lit (.bool true)], args := [d1, d2, d3] }
  | _ => none }
def portedRow : OpenClaim := { program := "ytloppmepfkkblaa", sum := "7af50786c00540c125339f0189dd4d6ad22f9c65487cc41e5c556a38a63b60ff", func := "cloister/cloisterkeep.Ported", spec := "ported", unfollowed := true, recurses := true, apart := false }
def PortedSaid : Prop := portedRow.holds Try.pinned (OpenSpec.ofChange portedSpec)

/-- ITS FALSE NEIGHBOUR: 'it returns false'. Refute it at one input. -/
def portedWrong : ChangeSpec := { name := "ported", fn := fun _ => fun
  | [d1, d2, d3] => { results := [.lit (.bool false)], args := [d1, d2, d3] }
  | _ => none }
def PortedWrongFalsely : Prop := portedRow.holds Try.pinned (OpenSpec.ofChange portedWrong)

/-- 'cloisterkeep.Apart': WHATEVER THE INPUT: true; the input reads as it did. -/
def apartSpec : ChangeSpec := { name := "apart", fn := fun _ => fun
  | [d1, d2] => { results := [.lit (.bool true)], args := [d1, d2] }
  | _ => none }
def apartRow : OpenClaim := { program := "ytloppmepfkkblaa", sum := "7af50786c00540c125339f0189dd4d6ad22f9c65487cc41e5c556a38a63b60ff", func := "cloister/cloisterkeep.Apart", spec := "apart", unfollowed := true, recurses := true, apart := false }
def ApartSaid : Prop := apartRow.holds Try.pinned (OpenSpec.ofChange apartSpec)

/-- ITS FALSE NEIGHBOUR: 'it returns false'. Refute it at one input. -/
def apartWrong : ChangeSpec := { name := "apart", fn := fun _ => fun
  | [d1, d2] => { results := [.lit (.bool false)], args := [d1, d2] }
  | _ => none }
def ApartWrongFalsely : Prop := apartRow.holds Try.pinned (OpenSpec.ofChange apartWrong)

/- THE SECOND FORM. 'bulk': how many values and letters a reading holds, each counted each time it is reached (what is shared counts as often as it is met; a slice's spare places count too). A statement '..UptoSaid' is the law's where the arguments, and the package variables that the reading takes, are together of bulk at most 1048576: NARROWER than '..Said'. Prove '..Said' where nothing that the law and all that it calls make is longer than what came in: it says more and counts as full. Else prove '..UptoSaid'. A law counts once. -/
mutual
def uptoBulk {H : Type} : DataW H → Nat
  | .lit (.string bytes) => bytes.length + 1
  | .lit _ => 1
  | .nil => 1
  | .ptr d => uptoBulk d + 1
  | .slice elems spare => uptoBulkAll elems + uptoBulkAll spare + 1
  | .agg parts => uptoBulkAll parts + 1
  | .iface _ d => uptoBulk d + 1
  | .map entries => uptoBulkEntries entries + 1
  | .held _ => 1
def uptoBulkAll {H : Type} : List (DataW H) → Nat
  | [] => 0
  | d :: r => uptoBulk d + uptoBulkAll r
def uptoBulkEntries {H : Type} : List (Lit × DataW H) → Nat
  | [] => 0
  | x :: r => uptoBulkEntry x + uptoBulkEntries r
def uptoBulkEntry {H : Type} : Lit × DataW H → Nat
  | (.string bytes, d) => bytes.length + uptoBulk d + 1
  | (_, d) => uptoBulk d + 1
 end
def uptoSmall : (H : Type) → List (DataW H) → Bool := fun _ ds => decide (uptoBulkAll ds ≤ 1048576)
def OpenSpec.upto (s : _root_.Go.ChangeSpec) : _root_.Go.OpenSpec := { _root_.Go.OpenSpec.ofChange s with cond := some uptoSmall }

/-- 'cloisterkeep.Silent', WHERE WHAT IT READS IS OF BULK AT MOST 1048576: true; the input reads as it did. -/
def silentUptoRow : OpenClaim := { program := "ytloppmepfkkblaa", sum := "7af50786c00540c125339f0189dd4d6ad22f9c65487cc41e5c556a38a63b60ff", func := "cloister/cloisterkeep.Silent", spec := "silent", unfollowed := true, recurses := true, apart := false, narrowed := true }
def SilentUptoSaid : Prop := silentUptoRow.holds Try.pinned (OpenSpec.upto silentSpec)

/-- 'cloisterkeep.Refused', WHERE WHAT IT READS IS OF BULK AT MOST 1048576: true; the input reads as it did. -/
def refusedUptoRow : OpenClaim := { program := "ytloppmepfkkblaa", sum := "7af50786c00540c125339f0189dd4d6ad22f9c65487cc41e5c556a38a63b60ff", func := "cloister/cloisterkeep.Refused", spec := "refused", unfollowed := true, recurses := true, apart := false, narrowed := true }
def RefusedUptoSaid : Prop := refusedUptoRow.holds Try.pinned (OpenSpec.upto refusedSpec)

/-- 'cloisterkeep.Timed', WHERE WHAT IT READS IS OF BULK AT MOST 1048576: true; the input reads as it did. -/
def timedUptoRow : OpenClaim := { program := "ytloppmepfkkblaa", sum := "7af50786c00540c125339f0189dd4d6ad22f9c65487cc41e5c556a38a63b60ff", func := "cloister/cloisterkeep.Timed", spec := "timed", unfollowed := true, recurses := true, apart := false, narrowed := true }
def TimedUptoSaid : Prop := timedUptoRow.holds Try.pinned (OpenSpec.upto timedSpec)

/-- 'cloisterkeep.Wiped', WHERE WHAT IT READS IS OF BULK AT MOST 1048576: true; the input reads as it did. -/
def wipedUptoRow : OpenClaim := { program := "ytloppmepfkkblaa", sum := "7af50786c00540c125339f0189dd4d6ad22f9c65487cc41e5c556a38a63b60ff", func := "cloister/cloisterkeep.Wiped", spec := "wiped", unfollowed := true, recurses := true, apart := false, narrowed := true }
def WipedUptoSaid : Prop := wipedUptoRow.holds Try.pinned (OpenSpec.upto wipedSpec)

/-- 'cloisterkeep.Ported', WHERE WHAT IT READS IS OF BULK AT MOST 1048576: true; the input reads as it did. -/
def portedUptoRow : OpenClaim := { program := "ytloppmepfkkblaa", sum := "7af50786c00540c125339f0189dd4d6ad22f9c65487cc41e5c556a38a63b60ff", func := "cloister/cloisterkeep.Ported", spec := "ported", unfollowed := true, recurses := true, apart := false, narrowed := true }
def PortedUptoSaid : Prop := portedUptoRow.holds Try.pinned (OpenSpec.upto portedSpec)

/-- 'cloisterkeep.Apart', WHERE WHAT IT READS IS OF BULK AT MOST 1048576: true; the input reads as it did. -/
def apartUptoRow : OpenClaim := { program := "ytloppmepfkkblaa", sum := "7af50786c00540c125339f0189dd4d6ad22f9c65487cc41e5c556a38a63b60ff", func := "cloister/cloisterkeep.Apart", spec := "apart", unfollowed := true, recurses := true, apart := false, narrowed := true }
def ApartUptoSaid : Prop := apartUptoRow.holds Try.pinned (OpenSpec.upto apartSpec)

end Rows
end Go.Proofs.Ytloppmepfkkblaa
