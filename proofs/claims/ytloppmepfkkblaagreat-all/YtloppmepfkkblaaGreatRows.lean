/-
  No cell of these rows narrows 'for every input' (looked for: loops, veiled, ifaces, maps, wideKeys, modest, calm, conditions, laid).
  DERIVED. THE GIVEN ROWS OF THIS SEAT. 4 by the template 'for every input the law returns true; each argument reads behind the call as it read before'; 0 by the template 'total and deterministic' (their statements: YtloppmepfkkblaaGreatTotals.lean).
  GIVEN WITH THE SEED: the statements are not yours to turn. If you find one false, say at which input.
  Laid BY PROGRAM, IN A SANDBOX (cutbox-rows.mjs): the forced cells as the released guide's own fill.sh prints them over the translation 1c9250b97a8026e3… (all of the seat's roots in one cut). By AI agents, Wed Nov 11 2026. No macro, syntax, notation, axiom, sorry.
-/
import Derived.Test.YtloppmepfkkblaaGreatChecked
import GoSem.Claim
import GoSem.ClaimJoined
import GoSem.ClaimMapViews
import Derived.JoinedTies
import Derived.KernelRfl
namespace Go.Proofs.YtloppmepfkkblaaGreat
/- THE CELL 'sum', in the pinned program and in every row, IS THE sha256 OF THE DUMP (.gsa) THAT YtloppmepfkkblaaGreatProg.lean LOADS. Nothing in Lean hashes anything: it is a label: what it is worth is what the hold of that sum in a sandbox is worth. -/
noncomputable def Tryz.pinned : Pinned := { name := "ytloppmepfkkblaagreat", sum := "1c9250b97a8026e3a163463069e69e6f967c1243f95ba1726717c1475413d166", checked := Tryz.checked }
namespace Rows
def none {H : Type} : Left H := { results := [], args := [] }

/-- 'cloisterlaw.Segments': WHATEVER THE INPUT: true; the input reads as it did. -/
def segmentsSpec : ChangeSpec := { name := "segments", fn := fun _ => fun
  | [d] => { results := [.lit (.bool true)], args := [d] }
  | _ => none }
def segmentsRow : OpenClaim := { program := "ytloppmepfkkblaagreat", sum := "1c9250b97a8026e3a163463069e69e6f967c1243f95ba1726717c1475413d166", func := "cloister/cloisterlaw.Segments", spec := "segments", unfollowed := true, recurses := true, apart := false }
def SegmentsSaid : Prop := segmentsRow.holds Tryz.pinned (OpenSpec.ofChange segmentsSpec)

/-- ITS FALSE NEIGHBOUR: 'it returns false'. Refute it at one input. -/
def segmentsWrong : ChangeSpec := { name := "segments", fn := fun _ => fun
  | [d] => { results := [.lit (.bool false)], args := [d] }
  | _ => none }
def SegmentsWrongFalsely : Prop := segmentsRow.holds Tryz.pinned (OpenSpec.ofChange segmentsWrong)

/-- 'cloisterlaw.Trees': WHATEVER THE INPUT: true; the input reads as it did. -/
def treesSpec : ChangeSpec := { name := "trees", fn := fun _ => fun
  | [d] => { results := [.lit (.bool true)], args := [d] }
  | _ => none }
def treesRow : OpenClaim := { program := "ytloppmepfkkblaagreat", sum := "1c9250b97a8026e3a163463069e69e6f967c1243f95ba1726717c1475413d166", func := "cloister/cloisterlaw.Trees", spec := "trees", unfollowed := true, recurses := true, apart := false }
def TreesSaid : Prop := treesRow.holds Tryz.pinned (OpenSpec.ofChange treesSpec)

/-- ITS FALSE NEIGHBOUR: 'it returns false'. Refute it at one input. -/
def treesWrong : ChangeSpec := { name := "trees", fn := fun _ => fun
  | [d] => { results := [.lit (.bool false)], args := [d] }
  | _ => none }
def TreesWrongFalsely : Prop := treesRow.holds Tryz.pinned (OpenSpec.ofChange treesWrong)

/-- 'cloisterlaw.Threads': WHATEVER THE INPUT: true; the input reads as it did. -/
def threadsSpec : ChangeSpec := { name := "threads", fn := fun _ => fun
  | [d] => { results := [.lit (.bool true)], args := [d] }
  | _ => none }
def threadsRow : OpenClaim := { program := "ytloppmepfkkblaagreat", sum := "1c9250b97a8026e3a163463069e69e6f967c1243f95ba1726717c1475413d166", func := "cloister/cloisterlaw.Threads", spec := "threads", unfollowed := true, recurses := true, apart := false }
def ThreadsSaid : Prop := threadsRow.holds Tryz.pinned (OpenSpec.ofChange threadsSpec)

/-- ITS FALSE NEIGHBOUR: 'it returns false'. Refute it at one input. -/
def threadsWrong : ChangeSpec := { name := "threads", fn := fun _ => fun
  | [d] => { results := [.lit (.bool false)], args := [d] }
  | _ => none }
def ThreadsWrongFalsely : Prop := threadsRow.holds Tryz.pinned (OpenSpec.ofChange threadsWrong)

/-- 'cloisterlaw.All': WHATEVER THE INPUT: true; the input reads as it did. -/
def allSpec : ChangeSpec := { name := "all", fn := fun _ => fun
  | [d] => { results := [.lit (.bool true)], args := [d] }
  | _ => none }
def allRow : OpenClaim := { program := "ytloppmepfkkblaagreat", sum := "1c9250b97a8026e3a163463069e69e6f967c1243f95ba1726717c1475413d166", func := "cloister/cloisterlaw.All", spec := "all", unfollowed := true, recurses := true, apart := false }
def AllSaid : Prop := allRow.holds Tryz.pinned (OpenSpec.ofChange allSpec)

/-- ITS FALSE NEIGHBOUR: 'it returns false'. Refute it at one input. -/
def allWrong : ChangeSpec := { name := "all", fn := fun _ => fun
  | [d] => { results := [.lit (.bool false)], args := [d] }
  | _ => none }
def AllWrongFalsely : Prop := allRow.holds Tryz.pinned (OpenSpec.ofChange allWrong)

/- THE SECOND FORM. 'bulk': how many values and letters a reading holds, each counted each time it is reached (what is shared counts as often as it is met; a slice's spare places count too). A statement '..UptoSaid' is the law's where the arguments, and the package variables that the reading takes, are together of bulk at most 1048576: NARROWER than '..Said'. Prove '..Said' where nothing that the law and all that it calls make is longer than what came in: it says more and counts as full. Else prove '..UptoSaid'. A law counts once. -/
mutual
def uptoBulk {H : Type} : DataW H → Nat
  | .lit (.string bytes) => bytes.length + 1
  | .lit _ => 1
  | .nil => 1
  | .ptr d => uptoBulk d + 1
  | .slice elems spare => uptoBulkAll elems + uptoBulkAll spare + 1
  | .agg parts => uptoBulkAll parts + 1
  | .iface _ d => uptoBulk d + 1
  | .map entries => uptoBulkEntries entries + 1
  | .held _ => 1
def uptoBulkAll {H : Type} : List (DataW H) → Nat
  | [] => 0
  | d :: r => uptoBulk d + uptoBulkAll r
def uptoBulkEntries {H : Type} : List (Lit × DataW H) → Nat
  | [] => 0
  | x :: r => uptoBulkEntry x + uptoBulkEntries r
def uptoBulkEntry {H : Type} : Lit × DataW H → Nat
  | (.string bytes, d) => bytes.length + uptoBulk d + 1
  | (_, d) => uptoBulk d + 1
 end
def uptoSmall : (H : Type) → List (DataW H) → Bool := fun _ ds => decide (uptoBulkAll ds ≤ 1048576)
def OpenSpec.upto (s : _root_.Go.ChangeSpec) : _root_.Go.OpenSpec := { _root_.Go.OpenSpec.ofChange s with cond := some uptoSmall }

/-- 'cloisterlaw.Segments', WHERE WHAT IT READS IS OF BULK AT MOST 1048576: true; the input reads as it did. -/
def segmentsUptoRow : OpenClaim := { program := "ytloppmepfkkblaagreat", sum := "1c9250b97a8026e3a163463069e69e6f967c1243f95ba1726717c1475413d166", func := "cloister/cloisterlaw.Segments", spec := "segments", unfollowed := true, recurses := true, apart := false, narrowed := true }
def SegmentsUptoSaid : Prop := segmentsUptoRow.holds Tryz.pinned (OpenSpec.upto segmentsSpec)

/-- 'cloisterlaw.Trees', WHERE WHAT IT READS IS OF BULK AT MOST 1048576: true; the input reads as it did. -/
def treesUptoRow : OpenClaim := { program := "ytloppmepfkkblaagreat", sum := "1c9250b97a8026e3a163463069e69e6f967c1243f95ba1726717c1475413d166", func := "cloister/cloisterlaw.Trees", spec := "trees", unfollowed := true, recurses := true, apart := false, narrowed := true }
def TreesUptoSaid : Prop := treesUptoRow.holds Tryz.pinned (OpenSpec.upto treesSpec)

/-- 'cloisterlaw.Threads', WHERE WHAT IT READS IS OF BULK AT MOST 1048576: true; the input reads as it did. -/
def threadsUptoRow : OpenClaim := { program := "ytloppmepfkkblaagreat", sum := "1c9250b97a8026e3a163463069e69e6f967c1243f95ba1726717c1475413d166", func := "cloister/cloisterlaw.Threads", spec := "threads", unfollowed := true, recurses := true, apart := false, narrowed := true }
def ThreadsUptoSaid : Prop := threadsUptoRow.holds Tryz.pinned (OpenSpec.upto threadsSpec)

/-- 'cloisterlaw.All', WHERE WHAT IT READS IS OF BULK AT MOST 1048576: true; the input reads as it did. -/
def allUptoRow : OpenClaim := { program := "ytloppmepfkkblaagreat", sum := "1c9250b97a8026e3a163463069e69e6f967c1243f95ba1726717c1475413d166", func := "cloister/cloisterlaw.All", spec := "all", unfollowed := true, recurses := true, apart := false, narrowed := true }
def AllUptoSaid : Prop := allUptoRow.holds Tryz.pinned (OpenSpec.upto allSpec)

end Rows
end Go.Proofs.YtloppmepfkkblaaGreat
