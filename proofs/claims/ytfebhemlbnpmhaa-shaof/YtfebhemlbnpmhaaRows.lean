/-
  No cell of these rows narrows 'for every input' (looked for: loops, veiled, ifaces, maps, wideKeys, modest, calm, conditions, laid).
  DERIVED. THE GIVEN ROWS OF THIS SEAT. 6 by the template 'for every input the law returns true; each argument reads behind the call as it read before'; 0 by the template 'total and deterministic' (their statements: YtfebhemlbnpmhaaTotals.lean).
  GIVEN WITH THE SEED: the statements are not yours to turn. If you find one false, say at which input.
  Laid BY PROGRAM, IN A SANDBOX (cutbox-rows.mjs): the forced cells as the released guide's own fill.sh prints them over the translation a1ca1ba1a3710afb… (all of the seat's roots in one cut). By AI agents, Wed Nov 11 2026. No macro, syntax, notation, axiom, sorry.
-/
import Derived.Test.YtfebhemlbnpmhaaChecked
import GoSem.Claim
import GoSem.ClaimJoined
import GoSem.ClaimMapViews
import Derived.JoinedTies
import Derived.KernelRfl
namespace Go.Proofs.Ytfebhemlbnpmhaa
/- THE CELL 'sum', in the pinned program and in every row, IS THE sha256 OF THE DUMP (.gsa) THAT YtfebhemlbnpmhaaProg.lean LOADS. Nothing in Lean hashes anything: it is a label: what it is worth is what the hold of that sum in a sandbox is worth. -/
noncomputable def Try.pinned : Pinned := { name := "ytfebhemlbnpmhaa", sum := "a1ca1ba1a3710afb35864df190fb477992083f13d077cd5e1098174819d67ecd", checked := Try.checked }
namespace Rows
def none {H : Type} : Left H := { results := [], args := [] }

/-- 'cenotaphlaw02.ShaOf': WHATEVER THE INPUT: true; the input reads as it did. -/
def shaOfSpec : ChangeSpec := { name := "shaOf", fn := fun _ => fun
  | [d1, d2] => { results := [.lit (.bool true)], args := [d1, d2] }
  | _ => none }
def shaOfRow : OpenClaim := { program := "ytfebhemlbnpmhaa", sum := "a1ca1ba1a3710afb35864df190fb477992083f13d077cd5e1098174819d67ecd", func := "cenotaph/cenotaphlaw02.ShaOf", spec := "shaOf", inPlace := ["math/bits.Sub64", "internal/abi.NoEscape", "internal/bytealg.MakeNoZero"], unfollowed := true, recurses := true, apart := false }
def ShaOfSaid : Prop := shaOfRow.holds Try.pinned (OpenSpec.ofChange shaOfSpec)

/-- ITS FALSE NEIGHBOUR: 'it returns false'. Refute it at one input. -/
def shaOfWrong : ChangeSpec := { name := "shaOf", fn := fun _ => fun
  | [d1, d2] => { results := [.lit (.bool false)], args := [d1, d2] }
  | _ => none }
def ShaOfWrongFalsely : Prop := shaOfRow.holds Try.pinned (OpenSpec.ofChange shaOfWrong)

/-- 'cenotaphlaw02.ShaPads': WHATEVER THE INPUT: true; the input reads as it did. -/
def shaPadsSpec : ChangeSpec := { name := "shaPads", fn := fun _ => fun
  | [d1, d2] => { results := [.lit (.bool true)], args := [d1, d2] }
  | _ => none }
def shaPadsRow : OpenClaim := { program := "ytfebhemlbnpmhaa", sum := "a1ca1ba1a3710afb35864df190fb477992083f13d077cd5e1098174819d67ecd", func := "cenotaph/cenotaphlaw02.ShaPads", spec := "shaPads", inPlace := ["math/bits.Sub64", "internal/abi.NoEscape", "internal/bytealg.MakeNoZero"], unfollowed := true, recurses := true, apart := false }
def ShaPadsSaid : Prop := shaPadsRow.holds Try.pinned (OpenSpec.ofChange shaPadsSpec)

/-- ITS FALSE NEIGHBOUR: 'it returns false'. Refute it at one input. -/
def shaPadsWrong : ChangeSpec := { name := "shaPads", fn := fun _ => fun
  | [d1, d2] => { results := [.lit (.bool false)], args := [d1, d2] }
  | _ => none }
def ShaPadsWrongFalsely : Prop := shaPadsRow.holds Try.pinned (OpenSpec.ofChange shaPadsWrong)

/-- 'cenotaphlaw02.ShaSame': WHATEVER THE INPUT: true; the input reads as it did. -/
def shaSameSpec : ChangeSpec := { name := "shaSame", fn := fun _ => fun
  | [d1, d2] => { results := [.lit (.bool true)], args := [d1, d2] }
  | _ => none }
def shaSameRow : OpenClaim := { program := "ytfebhemlbnpmhaa", sum := "a1ca1ba1a3710afb35864df190fb477992083f13d077cd5e1098174819d67ecd", func := "cenotaph/cenotaphlaw02.ShaSame", spec := "shaSame", inPlace := ["math/bits.Sub64", "internal/abi.NoEscape", "internal/bytealg.MakeNoZero"], unfollowed := true, recurses := true, apart := false }
def ShaSameSaid : Prop := shaSameRow.holds Try.pinned (OpenSpec.ofChange shaSameSpec)

/-- ITS FALSE NEIGHBOUR: 'it returns false'. Refute it at one input. -/
def shaSameWrong : ChangeSpec := { name := "shaSame", fn := fun _ => fun
  | [d1, d2] => { results := [.lit (.bool false)], args := [d1, d2] }
  | _ => none }
def ShaSameWrongFalsely : Prop := shaSameRow.holds Try.pinned (OpenSpec.ofChange shaSameWrong)

/-- 'cenotaphlaw02.ShaText': WHATEVER THE INPUT: true; the input reads as it did. -/
def shaTextSpec : ChangeSpec := { name := "shaText", fn := fun _ => fun
  | [d1, d2] => { results := [.lit (.bool true)], args := [d1, d2] }
  | _ => none }
def shaTextRow : OpenClaim := { program := "ytfebhemlbnpmhaa", sum := "a1ca1ba1a3710afb35864df190fb477992083f13d077cd5e1098174819d67ecd", func := "cenotaph/cenotaphlaw02.ShaText", spec := "shaText", inPlace := ["math/bits.Sub64", "internal/abi.NoEscape", "internal/bytealg.MakeNoZero"], unfollowed := true, recurses := true, apart := false }
def ShaTextSaid : Prop := shaTextRow.holds Try.pinned (OpenSpec.ofChange shaTextSpec)

/-- ITS FALSE NEIGHBOUR: 'it returns false'. Refute it at one input. -/
def shaTextWrong : ChangeSpec := { name := "shaText", fn := fun _ => fun
  | [d1, d2] => { results := [.lit (.bool false)], args := [d1, d2] }
  | _ => none }
def ShaTextWrongFalsely : Prop := shaTextRow.holds Try.pinned (OpenSpec.ofChange shaTextWrong)

/-- 'cenotaphlaw02.ShaPadEnds': WHATEVER THE INPUT: true; the input reads as it did. -/
def shaPadEndsSpec : ChangeSpec := { name := "shaPadEnds", fn := fun _ => fun
  | [d] => { results := [.lit (.bool true)], args := [d] }
  | _ => none }
def shaPadEndsRow : OpenClaim := { program := "ytfebhemlbnpmhaa", sum := "a1ca1ba1a3710afb35864df190fb477992083f13d077cd5e1098174819d67ecd", func := "cenotaph/cenotaphlaw02.ShaPadEnds", spec := "shaPadEnds", inPlace := ["math/bits.Sub64", "internal/abi.NoEscape", "internal/bytealg.MakeNoZero"], unfollowed := true, recurses := true, apart := false }
def ShaPadEndsSaid : Prop := shaPadEndsRow.holds Try.pinned (OpenSpec.ofChange shaPadEndsSpec)

/-- ITS FALSE NEIGHBOUR: 'it returns false'. Refute it at one input. -/
def shaPadEndsWrong : ChangeSpec := { name := "shaPadEnds", fn := fun _ => fun
  | [d] => { results := [.lit (.bool false)], args := [d] }
  | _ => none }
def ShaPadEndsWrongFalsely : Prop := shaPadEndsRow.holds Try.pinned (OpenSpec.ofChange shaPadEndsWrong)

/-- 'cenotaphlaw02.ShaLinks': WHATEVER THE INPUT: true; the input reads as it did. -/
def shaLinksSpec : ChangeSpec := { name := "shaLinks", fn := fun _ => fun
  | [d1, d2, d3] => { results := [.lit (.bool true)], args := [d1, d2, d3] }
  | _ => none }
def shaLinksRow : OpenClaim := { program := "ytfebhemlbnpmhaa", sum := "a1ca1ba1a3710afb35864df190fb477992083f13d077cd5e1098174819d67ecd", func := "cenotaph/cenotaphlaw02.ShaLinks", spec := "shaLinks", inPlace := ["math/bits.Sub64", "internal/abi.NoEscape", "internal/bytealg.MakeNoZero"], unfollowed := true, recurses := true, apart := false }
def ShaLinksSaid : Prop := shaLinksRow.holds Try.pinned (OpenSpec.ofChange shaLinksSpec)

/-- ITS FALSE NEIGHBOUR: 'it returns false'. Refute it at one input. -/
def shaLinksWrong : ChangeSpec := { name := "shaLinks", fn := fun _ => fun
  | [d1, d2, d3] => { results := [.lit (.bool false)], args := [d1, d2, d3] }
  | _ => none }
def ShaLinksWrongFalsely : Prop := shaLinksRow.holds Try.pinned (OpenSpec.ofChange shaLinksWrong)

/- THE SECOND FORM. 'bulk': how many values and letters a reading holds, each counted each time it is reached (what is shared counts as often as it is met; a slice's spare places count too). A statement '..UptoSaid' is the law's where the arguments, and the package variables that the reading takes, are together of bulk at most 1048576: NARROWER than '..Said'. Prove '..Said' where nothing that the law and all that it calls make is longer than what came in: it says more and counts as full. Else prove '..UptoSaid'. A law counts once. -/
mutual
def uptoBulk {H : Type} : DataW H → Nat
  | .lit (.string bytes) => bytes.length + 1
  | .lit _ => 1
  | .nil => 1
  | .ptr d => uptoBulk d + 1
  | .slice elems spare => uptoBulkAll elems + uptoBulkAll spare + 1
  | .agg parts => uptoBulkAll parts + 1
  | .iface _ d => uptoBulk d + 1
  | .map entries => uptoBulkEntries entries + 1
  | .held _ => 1
def uptoBulkAll {H : Type} : List (DataW H) → Nat
  | [] => 0
  | d :: r => uptoBulk d + uptoBulkAll r
def uptoBulkEntries {H : Type} : List (Lit × DataW H) → Nat
  | [] => 0
  | x :: r => uptoBulkEntry x + uptoBulkEntries r
def uptoBulkEntry {H : Type} : Lit × DataW H → Nat
  | (.string bytes, d) => bytes.length + uptoBulk d + 1
  | (_, d) => uptoBulk d + 1
 end
def uptoSmall : (H : Type) → List (DataW H) → Bool := fun _ ds => decide (uptoBulkAll ds ≤ 1048576)
def OpenSpec.upto (s : _root_.Go.ChangeSpec) : _root_.Go.OpenSpec := { _root_.Go.OpenSpec.ofChange s with cond := some uptoSmall }

/-- 'cenotaphlaw02.ShaOf', WHERE WHAT IT READS IS OF BULK AT MOST 1048576: true; the input reads as it did. -/
def shaOfUptoRow : OpenClaim := { program := "ytfebhemlbnpmhaa", sum := "a1ca1ba1a3710afb35864df190fb477992083f13d077cd5e1098174819d67ecd", func := "cenotaph/cenotaphlaw02.ShaOf", spec := "shaOf", inPlace := ["math/bits.Sub64", "internal/abi.NoEscape", "internal/bytealg.MakeNoZero"], unfollowed := true, recurses := true, apart := false, narrowed := true }
def ShaOfUptoSaid : Prop := shaOfUptoRow.holds Try.pinned (OpenSpec.upto shaOfSpec)

/-- 'cenotaphlaw02.ShaPads', WHERE WHAT IT READS IS OF BULK AT MOST 1048576: true; the input reads as it did. -/
def shaPadsUptoRow : OpenClaim := { program := "ytfebhemlbnpmhaa", sum := "a1ca1ba1a3710afb35864df190fb477992083f13d077cd5e1098174819d67ecd", func := "cenotaph/cenotaphlaw02.ShaPads", spec := "shaPads", inPlace := ["math/bits.Sub64", "internal/abi.NoEscape", "internal/bytealg.MakeNoZero"], unfollowed := true, recurses := true, apart := false, narrowed := true }
def ShaPadsUptoSaid : Prop := shaPadsUptoRow.holds Try.pinned (OpenSpec.upto shaPadsSpec)

/-- 'cenotaphlaw02.ShaSame', WHERE WHAT IT READS IS OF BULK AT MOST 1048576: true; the input reads as it did. -/
def shaSameUptoRow : OpenClaim := { program := "ytfebhemlbnpmhaa", sum := "a1ca1ba1a3710afb35864df190fb477992083f13d077cd5e1098174819d67ecd", func := "cenotaph/cenotaphlaw02.ShaSame", spec := "shaSame", inPlace := ["math/bits.Sub64", "internal/abi.NoEscape", "internal/bytealg.MakeNoZero"], unfollowed := true, recurses := true, apart := false, narrowed := true }
def ShaSameUptoSaid : Prop := shaSameUptoRow.holds Try.pinned (OpenSpec.upto shaSameSpec)

/-- 'cenotaphlaw02.ShaText', WHERE WHAT IT READS IS OF BULK AT MOST 1048576: true; the input reads as it did. -/
def shaTextUptoRow : OpenClaim := { program := "ytfebhemlbnpmhaa", sum := "a1ca1ba1a3710afb35864df190fb477992083f13d077cd5e1098174819d67ecd", func := "cenotaph/cenotaphlaw02.ShaText", spec := "shaText", inPlace := ["math/bits.Sub64", "internal/abi.NoEscape", "internal/bytealg.MakeNoZero"], unfollowed := true, recurses := true, apart := false, narrowed := true }
def ShaTextUptoSaid : Prop := shaTextUptoRow.holds Try.pinned (OpenSpec.upto shaTextSpec)

/-- 'cenotaphlaw02.ShaPadEnds', WHERE WHAT IT READS IS OF BULK AT MOST 1048576: true; the input reads as it did. -/
def shaPadEndsUptoRow : OpenClaim := { program := "ytfebhemlbnpmhaa", sum := "a1ca1ba1a3710afb35864df190fb477992083f13d077cd5e1098174819d67ecd", func := "cenotaph/cenotaphlaw02.ShaPadEnds", spec := "shaPadEnds", inPlace := ["math/bits.Sub64", "internal/abi.NoEscape", "internal/bytealg.MakeNoZero"], unfollowed := true, recurses := true, apart := false, narrowed := true }
def ShaPadEndsUptoSaid : Prop := shaPadEndsUptoRow.holds Try.pinned (OpenSpec.upto shaPadEndsSpec)

/-- 'cenotaphlaw02.ShaLinks', WHERE WHAT IT READS IS OF BULK AT MOST 1048576: true; the input reads as it did. -/
def shaLinksUptoRow : OpenClaim := { program := "ytfebhemlbnpmhaa", sum := "a1ca1ba1a3710afb35864df190fb477992083f13d077cd5e1098174819d67ecd", func := "cenotaph/cenotaphlaw02.ShaLinks", spec := "shaLinks", inPlace := ["math/bits.Sub64", "internal/abi.NoEscape", "internal/bytealg.MakeNoZero"], unfollowed := true, recurses := true, apart := false, narrowed := true }
def ShaLinksUptoSaid : Prop := shaLinksUptoRow.holds Try.pinned (OpenSpec.upto shaLinksSpec)

end Rows
end Go.Proofs.Ytfebhemlbnpmhaa
