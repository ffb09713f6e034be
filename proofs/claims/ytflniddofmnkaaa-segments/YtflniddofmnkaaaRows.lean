/-
  No cell of these rows narrows 'for every input' (looked for: loops, veiled, ifaces, maps, wideKeys, modest, calm, conditions, laid).
  DERIVED. THE GIVEN ROWS OF THIS SEAT. 5 by the template 'for every input the law returns true; each argument reads behind the call as it read before'; 0 by the template 'total and deterministic' (their statements: YtflniddofmnkaaaTotals.lean).
  GIVEN WITH THE SEED: the statements are not yours to turn. If you find one false, say at which input.
  Laid BY PROGRAM, IN A SANDBOX (cutbox-rows.mjs): the forced cells as the released guide's own fill.sh prints them over the translation 6ba62671a47a31d9… (all of the seat's roots in one cut). By AI agents, Wed Nov 11 2026. No macro, syntax, notation, axiom, sorry.
-/
import Derived.Test.YtflniddofmnkaaaChecked
import GoSem.Claim
import GoSem.ClaimJoined
import GoSem.ClaimMapViews
import Derived.JoinedTies
import Derived.KernelRfl
namespace Go.Proofs.Ytflniddofmnkaaa
/- THE CELL 'sum', in the pinned program and in every row, IS THE sha256 OF THE DUMP (.gsa) THAT YtflniddofmnkaaaProg.lean LOADS. Nothing in Lean hashes anything: it is a label: what it is worth is what the hold of that sum in a sandbox is worth. -/
noncomputable def Try.pinned : Pinned := { name := "ytflniddofmnkaaa", sum := "6ba62671a47a31d905e7d67941b2e367ae2f06b9cc6aec9882efd836a7951db7", checked := Try.checked }
namespace Rows
def none {H : Type} : Left H := { results := [], args := [] }

/-- 'cloisterlaw.Segments': WHATEVER THE INPUT: true; the input reads as it did. -/
def segmentsSpec : ChangeSpec := { name := "segments", fn := fun _ => fun
  | [d] => { results := [.lit (.bool true)], args := [d] }
  | _ => none }
def segmentsRow : OpenClaim := { program := "ytflniddofmnkaaa", sum := "6ba62671a47a31d905e7d67941b2e367ae2f06b9cc6aec9882efd836a7951db7", func := "cloister/cloisterlaw.Segments", spec := "segments", unfollowed := true, recurses := true, apart := false }
def SegmentsSaid : Prop := segmentsRow.holds Try.pinned (OpenSpec.ofChange segmentsSpec)

/-- ITS FALSE NEIGHBOUR: 'it returns false'. Refute it at one input. -/
def segmentsWrong : ChangeSpec := { name := "segments", fn := fun _ => fun
  | [d] => { results := [.lit (.bool false)], args := [d] }
  | _ => none }
def SegmentsWrongFalsely : Prop := segmentsRow.holds Try.pinned (OpenSpec.ofChange segmentsWrong)

/-- 'cloisterkeep.Silent': WHATEVER THE INPUT: true; the input reads as it did. -/
def silentSpec : ChangeSpec := { name := "silent", fn := fun _ => fun
  | [d1, d2, d3] => { results := [.lit (.bool true)], args := [d1, d2, d3] }
  | _ => none }
def silentRow : OpenClaim := { program := "ytflniddofmnkaaa", sum := "6ba62671a47a31d905e7d67941b2e367ae2f06b9cc6aec9882efd836a7951db7", func := "cloister/cloisterkeep.Silent", spec := "silent", unfollowed := true, recurses := true, apart := false }
def SilentSaid : Prop := silentRow.holds Try.pinned (OpenSpec.ofChange silentSpec)

/-- ITS FALSE NEIGHBOUR: 'it returns false'. Refute it at one input. -/
def silentWrong : ChangeSpec := { name := "silent", fn := fun _ => fun
  | [d1, d2, d3] => { results := [.lit (.bool false)], args := [d1, d2, d3] }
  | _ => none }
def SilentWrongFalsely : Prop := silentRow.holds Try.pinned (OpenSpec.ofChange silentWrong)

/-- 'cloisterkeep.Refused': WHATEVER THE INPUT: true; the input reads as it did. -/
def refusedSpec : ChangeSpec := { name := "refused", fn := fun _ => fun
  | [d1, d2] => { results := [.lit (.bool true)], args := [d1, d2] }
  | _ => none }
def refusedRow : OpenClaim := { program := "ytflniddofmnkaaa", sum := "6ba62671a47a31d905e7d67941b2e367ae2f06b9cc6aec9882efd836a7951db7", func := "cloister/cloisterkeep.Refused", spec := "refused", unfollowed := true, recurses := true, apart := false }
def RefusedSaid : Prop := refusedRow.holds Try.pinned (OpenSpec.ofChange refusedSpec)

/-- ITS FALSE NEIGHBOUR: 'it returns false'. Refute it at one input. -/
def refusedWrong : ChangeSpec := { name := "refused", fn := fun _ => fun
  | [d1, d2] => { results := [.lit (.bool false)], args := [d1, d2] }
  | _ => none }
def RefusedWrongFalsely : Prop := refusedRow.holds Try.pinned (OpenSpec.ofChange refusedWrong)

/-- 'cloisterkeep.Timed': WHATEVER THE INPUT: true; the input reads as it did. -/
def timedSpec : ChangeSpec := { name := "timed", fn := fun _ => fun
  | [d1, d2] => { results := [.lit (.bool true)], args := [d1, d2] }
  | _ => none }
def timedRow : OpenClaim := { program := "ytflniddofmnkaaa", sum := "6ba62671a47a31d905e7d67941b2e367ae2f06b9cc6aec9882efd836a7951db7", func := "cloister/cloisterkeep.Timed", spec := "timed", unfollowed := true, recurses := true, apart := false }
def TimedSaid : Prop := timedRow.holds Try.pinned (OpenSpec.ofChange timedSpec)

/-- ITS FALSE NEIGHBOUR: 'it returns false'. Refute it at one input. -/
def timedWrong : ChangeSpec := { name := "timed", fn := fun _ => fun
  | [d1, d2] => { results := [.lit (.bool false)], args := [d1, d2] }
  | _ => none }
def TimedWrongFalsely : Prop := timedRow.holds Try.pinned (OpenSpec.ofChange timedWrong)

/-- 'cloisterkeep.Apart': WHATEVER THE INPUT: true; the input reads as it did. -/
def apartSpec : ChangeSpec := { name := "apart", fn := fun _ => fun
  | [d1, d2] => { results := [.lit (.bool true)], args := [d1, d2] }
  | _ => none }
def apartRow : OpenClaim := { program := "ytflniddofmnkaaa", sum := "6ba62671a47a31d905e7d67941b2e367ae2f06b9cc6aec9882efd836a7951db7", func := "cloister/cloisterkeep.Apart", spec := "apart", unfollowed := true, recurses := true, apart := false }
def ApartSaid : Prop := apartRow.holds Try.pinned (OpenSpec.ofChange apartSpec)

/-- ITS FALSE NEIGHBOUR: 'it returns false'. Refute it at one input. -/
def apartWrong : ChangeSpec := { name := "apart", fn := fun _ => fun
  | [d1, d2] => { results := [.lit (.bool false)], args := [d1, d2] }
  | _ => none }
def ApartWrongFalsely : Prop := apartRow.holds Try.pinned (OpenSpec.ofChange apartWrong)

/- THE SECOND FORM. 'bulk': how many values and letters a reading holds, each counted each time it is reached (what is shared counts as often as it is met; a slice's spare places count too). A statement '..UptoSaid' is the law's where the arguments, and the package variables that the reading takes, are together of bulk at most 1048576: NARROWER than '..Said'. Prove '..Said' where nothing that the law and all that it calls make is longer than what came in: it says more and counts as full. Else prove '..UptoSaid'. A law counts once. -/
mutual
def uptoBulk {H : Type} : DataW H → Nat
  | .lit (.string bytes) => bytes.length + 1
  | .lit _ => 1
  | .nil => 1
  | .ptr d => uptoBulk d + 1
  | .slice elems spare => uptoBulkAll elems + uptoBulkAll spare + 1
  | .agg parts => uptoBulkAll parts + 1
  | .iface _ d => uptoBulk d + 1
  | .map entries => uptoBulkEntries entries + 1
  | .held _ => 1
def uptoBulkAll {H : Type} : List (DataW H) → Nat
  | [] => 0
  | d :: r => uptoBulk d + uptoBulkAll r
def uptoBulkEntries {H : Type} : List (Lit × DataW H) → Nat
  | [] => 0
  | x :: r => uptoBulkEntry x + uptoBulkEntries r
def uptoBulkEntry {H : Type} : Lit × DataW H → Nat
  | (.string bytes, d) => bytes.length + uptoBulk d + 1
  | (_, d) => uptoBulk d + 1
 end
def uptoSmall : (H : Type) → List (DataW H) → Bool := fun _ ds => decide (uptoBulkAll ds ≤ 1048576)
def OpenSpec.upto (s : _root_.Go.ChangeSpec) : _root_.Go.OpenSpec := { _root_.Go.OpenSpec.ofChange s with cond := some uptoSmall }

/-- 'cloisterlaw.Segments', WHERE WHAT IT READS IS OF BULK AT MOST 1048576: true; the input reads as it did. -/
def segmentsUptoRow : OpenClaim := { program := "ytflniddofmnkaaa", sum := "6ba62671a47a31d905e7d67941b2e367ae2f06b9cc6aec9882efd836a7951db7", func := "cloister/cloisterlaw.Segments", spec := "segments", unfollowed := true, recurses := true, apart := false, narrowed := true }
def SegmentsUptoSaid : Prop := segmentsUptoRow.holds Try.pinned (OpenSpec.upto segmentsSpec)

/-- 'cloisterkeep.Silent', WHERE WHAT IT READS IS OF BULK AT MOST 1048576: true; the input reads as it did. -/
def silentUptoRow : OpenClaim := { program := "ytflniddofmnkaaa", sum := "6ba62671a47a31d905e7d67941b2e367ae2f06b9cc6aec9882efd836a7951db7", func := "cloister/cloisterkeep.Silent", spec := "silent", unfollowed := true, recurses := true, apart := false, narrowed := true }
def SilentUptoSaid : Prop := silentUptoRow.holds Try.pinned (OpenSpec.upto silentSpec)

/-- 'cloisterkeep.Refused', WHERE WHAT IT READS IS OF BULK AT MOST 1048576: true; the input reads as it did. -/
def refusedUptoRow : OpenClaim := { program := "ytflniddofmnkaaa", sum := "6ba62671a47a31d905e7d67941b2e367ae2f06b9cc6aec9882efd836a7951db7", func := "cloister/cloisterkeep.Refused", spec := "refused", unfollowed := true, recurses := true, apart := false, narrowed := true }
def RefusedUptoSaid : Prop := refusedUptoRow.holds Try.pinned (OpenSpec.upto refusedSpec)

/-- 'cloisterkeep.Timed', WHERE WHAT IT READS IS OF BULK AT MOST 1048576: true; the input reads as it did. -/
def timedUptoRow : OpenClaim := { program := "ytflniddofmnkaaa", sum := "6ba62671a47a31d905e7d67941b2e367ae2f06b9cc6aec9882efd836a7951db7", func := "cloister/cloisterkeep.Timed", spec := "timed", unfollowed := true, recurses := true, apart := false, narrowed := true }
def TimedUptoSaid : Prop := timedUptoRow.holds Try.pinned (OpenSpec.upto timedSpec)

/-- 'cloisterkeep.Apart', WHERE WHAT IT READS IS OF BULK AT MOST 1048576: true; the input reads as it did. -/
def apartUptoRow : OpenClaim := { program := "ytflniddofmnkaaa", sum := "6ba62671a47a31d905e7d67941b2e367ae2f06b9cc6aec9882efd836a7951db7", func := "cloister/cloisterkeep.Apart", spec := "apart", unfollowed := true, recurses := true, apart := false, narrowed := true }
def ApartUptoSaid : Prop := apartUptoRow.holds Try.pinned (OpenSpec.upto apartSpec)

end Rows
end Go.Proofs.Ytflniddofmnkaaa
