/-
  No cell of these rows narrows 'for every input' (looked for: loops, veiled, ifaces, maps, wideKeys, modest, calm, conditions, laid).
  DERIVED. THE GIVEN ROWS OF THIS SEAT. 3 by the template 'for every input the law returns true; each argument reads behind the call as it read before'; 0 by the template 'total and deterministic' (their statements: YtdcpiaoadbbdoaaGreatTotals.lean).
  GIVEN WITH THE SEED: the statements are not yours to turn. If you find one false, say at which input.
  Laid BY PROGRAM, IN A SANDBOX (cutbox-rows.mjs): the forced cells as the released guide's own fill.sh prints them over the translation 7dd961023aaf194f… (all of the seat's roots in one cut). By AI agents, Wed Nov 11 2026. No macro, syntax, notation, axiom, sorry.
-/
import Derived.Test.YtdcpiaoadbbdoaaGreatChecked
import GoSem.Claim
import GoSem.ClaimJoined
import GoSem.ClaimMapViews
import Derived.JoinedTies
import Derived.KernelRfl
namespace Go.Proofs.YtdcpiaoadbbdoaaGreat
/- THE CELL 'sum', in the pinned program and in every row, IS THE sha256 OF THE DUMP (.gsa) THAT YtdcpiaoadbbdoaaGreatProg.lean LOADS. Nothing in Lean hashes anything: it is a label: what it is worth is what the hold of that sum in a sandbox is worth. -/
noncomputable def Tryz.pinned : Pinned := { name := "ytdcpiaoadbbdoaagreat", sum := "7dd961023aaf194f0e3df5748e0a91bac7e457f0afc5f7a63b99bad47d334d78", checked := Tryz.checked }
namespace Rows
def none {H : Type} : Left H := { results := [], args := [] }

/-- 'ferrulelaw08.RaftOffers': WHATEVER THE INPUT: true; the input reads as it did. -/
def raftOffersSpec : ChangeSpec := { name := "raftOffers", fn := fun _ => fun
  | [d1, d2] => { results := [.lit (.bool true)], args := [d1, d2] }
  | _ => none }
def raftOffersRow : OpenClaim := { program := "ytdcpiaoadbbdoaagreat", sum := "7dd961023aaf194f0e3df5748e0a91bac7e457f0afc5f7a63b99bad47d334d78", func := "ferrule/ferrulelaw08.RaftOffers", spec := "raftOffers", unfollowed := true, recurses := true, plainKeys := false, apart := false }
def RaftOffersSaid : Prop := raftOffersRow.holds Tryz.pinned (OpenSpec.ofChange raftOffersSpec)

/-- ITS FALSE NEIGHBOUR: 'it returns false'. Refute it at one input. -/
def raftOffersWrong : ChangeSpec := { name := "raftOffers", fn := fun _ => fun
  | [d1, d2] => { results := [.lit (.bool false)], args := [d1, d2] }
  | _ => none }
def RaftOffersWrongFalsely : Prop := raftOffersRow.holds Tryz.pinned (OpenSpec.ofChange raftOffersWrong)

/-- 'ferrulelaw08.RaftSends': WHATEVER THE INPUT: true; the input reads as it did. -/
def raftSendsSpec : ChangeSpec := { name := "raftSends", fn := fun _ => fun
  | [d] => { results := [.lit (.bool true)], args := [d] }
  | _ => none }
def raftSendsRow : OpenClaim := { program := "ytdcpiaoadbbdoaagreat", sum := "7dd961023aaf194f0e3df5748e0a91bac7e457f0afc5f7a63b99bad47d334d78", func := "ferrule/ferrulelaw08.RaftSends", spec := "raftSends", unfollowed := true, recurses := true, plainKeys := false, apart := false }
def RaftSendsSaid : Prop := raftSendsRow.holds Tryz.pinned (OpenSpec.ofChange raftSendsSpec)

/-- ITS FALSE NEIGHBOUR: 'it returns false'. Refute it at one input. -/
def raftSendsWrong : ChangeSpec := { name := "raftSends", fn := fun _ => fun
  | [d] => { results := [.lit (.bool false)], args := [d] }
  | _ => none }
def RaftSendsWrongFalsely : Prop := raftSendsRow.holds Tryz.pinned (OpenSpec.ofChange raftSendsWrong)

/-- 'ferrulelaw08.RaftCommits': WHATEVER THE INPUT: true; the input reads as it did. -/
def raftCommitsSpec : ChangeSpec := { name := "raftCommits", fn := fun _ => fun
  | [d1, d2] => { results := [.lit (.bool true)], args := [d1, d2] }
  | _ => none }
def raftCommitsRow : OpenClaim := { program := "ytdcpiaoadbbdoaagreat", sum := "7dd961023aaf194f0e3df5748e0a91bac7e457f0afc5f7a63b99bad47d334d78", func := "ferrule/ferrulelaw08.RaftCommits", spec := "raftCommits", unfollowed := true, recurses := true, plainKeys := false, apart := false }
def RaftCommitsSaid : Prop := raftCommitsRow.holds Tryz.pinned (OpenSpec.ofChange raftCommitsSpec)

/-- ITS FALSE NEIGHBOUR: 'it returns false'. Refute it at one input. -/
def raftCommitsWrong : ChangeSpec := { name := "raftCommits", fn := fun _ => fun
  | [d1, d2] => { results := [.lit (.bool false)], args := [d1, d2] }
  | _ => none }
def RaftCommitsWrongFalsely : Prop := raftCommitsRow.holds Tryz.pinned (OpenSpec.ofChange raftCommitsWrong)

/- THE SECOND FORM. 'bulk': how many values and letters a reading holds, each counted each time it is reached (what is shared counts as often as it is met; a slice's spare places count too). A statement '..UptoSaid' is the law's where the arguments, and the package variables that the reading takes, are together of bulk at most 1048576: NARROWER than '..Said'. Prove '..Said' where nothing that the law and all that it calls make is longer than what came in: it says more and counts as full. Else prove '..UptoSaid'. A law counts once. -/
mutual
def uptoBulk {H : Type} : DataW H → Nat
  | .lit (.string bytes) => bytes.length + 1
  | .lit _ => 1
  | .nil => 1
  | .ptr d => uptoBulk d + 1
  | .slice elems spare => uptoBulkAll elems + uptoBulkAll spare + 1
  | .agg parts => uptoBulkAll parts + 1
  | .iface _ d => uptoBulk d + 1
  | .map entries => uptoBulkEntries entries + 1
  | .held _ => 1
def uptoBulkAll {H : Type} : List (DataW H) → Nat
  | [] => 0
  | d :: r => uptoBulk d + uptoBulkAll r
def uptoBulkEntries {H : Type} : List (Lit × DataW H) → Nat
  | [] => 0
  | x :: r => uptoBulkEntry x + uptoBulkEntries r
def uptoBulkEntry {H : Type} : Lit × DataW H → Nat
  | (.string bytes, d) => bytes.length + uptoBulk d + 1
  | (_, d) => uptoBulk d + 1
 end
def uptoSmall : (H : Type) → List (DataW H) → Bool := fun _ ds => decide (uptoBulkAll ds ≤ 1048576)
def OpenSpec.upto (s : _root_.Go.ChangeSpec) : _root_.Go.OpenSpec := { _root_.Go.OpenSpec.ofChange s with cond := some uptoSmall }

/-- 'ferrulelaw08.RaftOffers', WHERE WHAT IT READS IS OF BULK AT MOST 1048576: true; the input reads as it did. -/
def raftOffersUptoRow : OpenClaim := { program := "ytdcpiaoadbbdoaagreat", sum := "7dd961023aaf194f0e3df5748e0a91bac7e457f0afc5f7a63b99bad47d334d78", func := "ferrule/ferrulelaw08.RaftOffers", spec := "raftOffers", unfollowed := true, recurses := true, plainKeys := false, apart := false, narrowed := true }
def RaftOffersUptoSaid : Prop := raftOffersUptoRow.holds Tryz.pinned (OpenSpec.upto raftOffersSpec)

/-- 'ferrulelaw08.RaftSends', WHERE WHAT IT READS IS OF BULK AT MOST 1048576: true; the input reads as it did. -/
def raftSendsUptoRow : OpenClaim := { program := "ytdcpiaoadbbdoaagreat", sum := "7dd961023aaf194f0e3df5748e0a91bac7e457f0afc5f7a63b99bad47d334d78", func := "ferrule/ferrulelaw08.RaftSends", spec := "raftSends", unfollowed := true, recurses := true, plainKeys := false, apart := false, narrowed := true }
def RaftSendsUptoSaid : Prop := raftSendsUptoRow.holds Tryz.pinned (OpenSpec.upto raftSendsSpec)

/-- 'ferrulelaw08.RaftCommits', WHERE WHAT IT READS IS OF BULK AT MOST 1048576: true; the input reads as it did. -/
def raftCommitsUptoRow : OpenClaim := { program := "ytdcpiaoadbbdoaagreat", sum := "7dd961023aaf194f0e3df5748e0a91bac7e457f0afc5f7a63b99bad47d334d78", func := "ferrule/ferrulelaw08.RaftCommits", spec := "raftCommits", unfollowed := true, recurses := true, plainKeys := false, apart := false, narrowed := true }
def RaftCommitsUptoSaid : Prop := raftCommitsUptoRow.holds Tryz.pinned (OpenSpec.upto raftCommitsSpec)

end Rows
end Go.Proofs.YtdcpiaoadbbdoaaGreat
