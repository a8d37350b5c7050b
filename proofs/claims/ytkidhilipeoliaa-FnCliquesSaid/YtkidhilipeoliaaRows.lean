/-
  No cell of these rows narrows 'for every input' (looked for: loops, veiled, ifaces, maps, wideKeys, modest, calm, conditions, laid).
  DERIVED. THE GIVEN ROWS OF THIS SEAT. 12 by the template 'for every input the law returns true; each argument reads behind the call as it read before'; 0 by the template 'total and deterministic' (their statements: YtkidhilipeoliaaTotals.lean).
  GIVEN WITH THE SEED: the statements are not yours to turn. If you find one false, say at which input.
  Laid BY PROGRAM, IN A SANDBOX (cutbox-rows.mjs): the forced cells as the released guide's own fill.sh prints them over the translation 498568ca030b7ab4… (all of the seat's roots in one cut). By AI agents, Wed Nov 11 2026. No macro, syntax, notation, axiom, sorry.
-/
import Derived.Test.YtkidhilipeoliaaChecked
import GoSem.Claim
import GoSem.ClaimJoined
import GoSem.ClaimMapViews
import Derived.JoinedTies
import Derived.KernelRfl
namespace Go.Proofs.Ytkidhilipeoliaa
/- THE CELL 'sum', in the pinned program and in every row, IS THE sha256 OF THE DUMP (.gsa) THAT YtkidhilipeoliaaProg.lean LOADS. Nothing in Lean hashes anything: it is a label: what it is worth is what the hold of that sum in a sandbox is worth. -/
noncomputable def Try.pinned : Pinned := { name := "ytkidhilipeoliaa", sum := "498568ca030b7ab4d80aa387719c77fb5280e22156babc3294f8b8d82889ab16", checked := Try.checked }
namespace Rows
def none {H : Type} : Left H := { results := [], args := [] }

/-- 'laws.FnVectors': WHATEVER THE INPUT: true; the input reads as it did. -/
def fnVectorsSpec : ChangeSpec := { name := "fnVectors", fn := fun _ => fun
  | [d] => { results := [.lit (.bool true)], args := [d] }
  | _ => none }
def fnVectorsRow : OpenClaim := { program := "ytkidhilipeoliaa", sum := "498568ca030b7ab4d80aa387719c77fb5280e22156babc3294f8b8d82889ab16", func := "loop.example/g00833/laws.FnVectors", spec := "fnVectors", apart := false }
def FnVectorsSaid : Prop := fnVectorsRow.holds Try.pinned (OpenSpec.ofChange fnVectorsSpec)

/-- ITS FALSE NEIGHBOUR: 'it returns false'. Refute it at one input. -/
def fnVectorsWrong : ChangeSpec := { name := "fnVectors", fn := fun _ => fun
  | [d] => { results := [.lit (.bool false)], args := [d] }
  | _ => none }
def FnVectorsWrongFalsely : Prop := fnVectorsRow.holds Try.pinned (OpenSpec.ofChange fnVectorsWrong)

/-- 'laws.FnAgreed': WHATEVER THE INPUT: true; the input reads as it did. -/
def fnAgreedSpec : ChangeSpec := { name := "fnAgreed", fn := fun _ => fun
  | [d] => { results := [.lit (.bool true)], args := [d] }
  | _ => none }
def fnAgreedRow : OpenClaim := { program := "ytkidhilipeoliaa", sum := "498568ca030b7ab4d80aa387719c77fb5280e22156babc3294f8b8d82889ab16", func := "loop.example/g00833/laws.FnAgreed", spec := "fnAgreed", apart := false }
def FnAgreedSaid : Prop := fnAgreedRow.holds Try.pinned (OpenSpec.ofChange fnAgreedSpec)

/-- ITS FALSE NEIGHBOUR: 'it returns false'. Refute it at one input. -/
def fnAgreedWrong : ChangeSpec := { name := "fnAgreed", fn := fun _ => fun
  | [d] => { results := [.lit (.bool false)], args := [d] }
  | _ => none }
def FnAgreedWrongFalsely : Prop := fnAgreedRow.holds Try.pinned (OpenSpec.ofChange fnAgreedWrong)

/-- 'laws.FnCliques': WHATEVER THE INPUT: true; the input reads as it did. -/
def fnCliquesSpec : ChangeSpec := { name := "fnCliques", fn := fun _ => fun
  | [d] => { results := [.lit (.bool true)], args := [d] }
  | _ => none }
def fnCliquesRow : OpenClaim := { program := "ytkidhilipeoliaa", sum := "498568ca030b7ab4d80aa387719c77fb5280e22156babc3294f8b8d82889ab16", func := "loop.example/g00833/laws.FnCliques", spec := "fnCliques", apart := false }
def FnCliquesSaid : Prop := fnCliquesRow.holds Try.pinned (OpenSpec.ofChange fnCliquesSpec)

/-- ITS FALSE NEIGHBOUR: 'it returns false'. Refute it at one input. -/
def fnCliquesWrong : ChangeSpec := { name := "fnCliques", fn := fun _ => fun
  | [d] => { results := [.lit (.bool false)], args := [d] }
  | _ => none }
def FnCliquesWrongFalsely : Prop := fnCliquesRow.holds Try.pinned (OpenSpec.ofChange fnCliquesWrong)

/-- 'laws.FnAcknowledged': WHATEVER THE INPUT: true; the input reads as it did. -/
def fnAcknowledgedSpec : ChangeSpec := { name := "fnAcknowledged", fn := fun _ => fun
  | [d] => { results := [.lit (.bool true)], args := [d] }
  | _ => none }
def fnAcknowledgedRow : OpenClaim := { program := "ytkidhilipeoliaa", sum := "498568ca030b7ab4d80aa387719c77fb5280e22156babc3294f8b8d82889ab16", func := "loop.example/g00833/laws.FnAcknowledged", spec := "fnAcknowledged", apart := false }
def FnAcknowledgedSaid : Prop := fnAcknowledgedRow.holds Try.pinned (OpenSpec.ofChange fnAcknowledgedSpec)

/-- ITS FALSE NEIGHBOUR: 'it returns false'. Refute it at one input. -/
def fnAcknowledgedWrong : ChangeSpec := { name := "fnAcknowledged", fn := fun _ => fun
  | [d] => { results := [.lit (.bool false)], args := [d] }
  | _ => none }
def FnAcknowledgedWrongFalsely : Prop := fnAcknowledgedRow.holds Try.pinned (OpenSpec.ofChange fnAcknowledgedWrong)

/-- 'laws.FnExactHasMember': WHATEVER THE INPUT: true; the input reads as it did. -/
def fnExactHasMemberSpec : ChangeSpec := { name := "fnExactHasMember", fn := fun _ => fun
  | [d1, d2] => { results := [.lit (.bool true)], args := [d1, d2] }
  | _ => none }
def fnExactHasMemberRow : OpenClaim := { program := "ytkidhilipeoliaa", sum := "498568ca030b7ab4d80aa387719c77fb5280e22156babc3294f8b8d82889ab16", func := "loop.example/g00833/laws.FnExactHasMember", spec := "fnExactHasMember", apart := false }
def FnExactHasMemberSaid : Prop := fnExactHasMemberRow.holds Try.pinned (OpenSpec.ofChange fnExactHasMemberSpec)

/-- ITS FALSE NEIGHBOUR: 'it returns false'. Refute it at one input. -/
def fnExactHasMemberWrong : ChangeSpec := { name := "fnExactHasMember", fn := fun _ => fun
  | [d1, d2] => { results := [.lit (.bool false)], args := [d1, d2] }
  | _ => none }
def FnExactHasMemberWrongFalsely : Prop := fnExactHasMemberRow.holds Try.pinned (OpenSpec.ofChange fnExactHasMemberWrong)

/-- 'laws.FnExactSetMember': WHATEVER THE INPUT: true; the input reads as it did. -/
def fnExactSetMemberSpec : ChangeSpec := { name := "fnExactSetMember", fn := fun _ => fun
  | [d1, d2, d3] => { results := [.lit (.bool true)], args := [d1, d2, d3] }
  | _ => none }
def fnExactSetMemberRow : OpenClaim := { program := "ytkidhilipeoliaa", sum := "498568ca030b7ab4d80aa387719c77fb5280e22156babc3294f8b8d82889ab16", func := "loop.example/g00833/laws.FnExactSetMember", spec := "fnExactSetMember", apart := false }
def FnExactSetMemberSaid : Prop := fnExactSetMemberRow.holds Try.pinned (OpenSpec.ofChange fnExactSetMemberSpec)

/-- ITS FALSE NEIGHBOUR: 'it returns false'. Refute it at one input. -/
def fnExactSetMemberWrong : ChangeSpec := { name := "fnExactSetMember", fn := fun _ => fun
  | [d1, d2, d3] => { results := [.lit (.bool false)], args := [d1, d2, d3] }
  | _ => none }
def FnExactSetMemberWrongFalsely : Prop := fnExactSetMemberRow.holds Try.pinned (OpenSpec.ofChange fnExactSetMemberWrong)

/-- 'laws.FnExactMembersOf': WHATEVER THE INPUT: true; the input reads as it did. -/
def fnExactMembersOfSpec : ChangeSpec := { name := "fnExactMembersOf", fn := fun _ => fun
  | [d] => { results := [.lit (.bool true)], args := [d] }
  | _ => none }
def fnExactMembersOfRow : OpenClaim := { program := "ytkidhilipeoliaa", sum := "498568ca030b7ab4d80aa387719c77fb5280e22156babc3294f8b8d82889ab16", func := "loop.example/g00833/laws.FnExactMembersOf", spec := "fnExactMembersOf", apart := false }
def FnExactMembersOfSaid : Prop := fnExactMembersOfRow.holds Try.pinned (OpenSpec.ofChange fnExactMembersOfSpec)

/-- ITS FALSE NEIGHBOUR: 'it returns false'. Refute it at one input. -/
def fnExactMembersOfWrong : ChangeSpec := { name := "fnExactMembersOf", fn := fun _ => fun
  | [d] => { results := [.lit (.bool false)], args := [d] }
  | _ => none }
def FnExactMembersOfWrongFalsely : Prop := fnExactMembersOfRow.holds Try.pinned (OpenSpec.ofChange fnExactMembersOfWrong)

/-- 'laws.FnExactVectorOf': WHATEVER THE INPUT: true; the input reads as it did. -/
def fnExactVectorOfSpec : ChangeSpec := { name := "fnExactVectorOf", fn := fun _ => fun
  | [d] => { results := [.lit (.bool true)], args := [d] }
  | _ => none }
def fnExactVectorOfRow : OpenClaim := { program := "ytkidhilipeoliaa", sum := "498568ca030b7ab4d80aa387719c77fb5280e22156babc3294f8b8d82889ab16", func := "loop.example/g00833/laws.FnExactVectorOf", spec := "fnExactVectorOf", apart := false }
def FnExactVectorOfSaid : Prop := fnExactVectorOfRow.holds Try.pinned (OpenSpec.ofChange fnExactVectorOfSpec)

/-- ITS FALSE NEIGHBOUR: 'it returns false'. Refute it at one input. -/
def fnExactVectorOfWrong : ChangeSpec := { name := "fnExactVectorOf", fn := fun _ => fun
  | [d] => { results := [.lit (.bool false)], args := [d] }
  | _ => none }
def FnExactVectorOfWrongFalsely : Prop := fnExactVectorOfRow.holds Try.pinned (OpenSpec.ofChange fnExactVectorOfWrong)

/-- 'laws.FnExactAgreedMembers': WHATEVER THE INPUT: true; the input reads as it did. -/
def fnExactAgreedMembersSpec : ChangeSpec := { name := "fnExactAgreedMembers", fn := fun _ => fun
  | [d] => { results := [.lit (.bool true)], args := [d] }
  | _ => none }
def fnExactAgreedMembersRow : OpenClaim := { program := "ytkidhilipeoliaa", sum := "498568ca030b7ab4d80aa387719c77fb5280e22156babc3294f8b8d82889ab16", func := "loop.example/g00833/laws.FnExactAgreedMembers", spec := "fnExactAgreedMembers", apart := false }
def FnExactAgreedMembersSaid : Prop := fnExactAgreedMembersRow.holds Try.pinned (OpenSpec.ofChange fnExactAgreedMembersSpec)

/-- ITS FALSE NEIGHBOUR: 'it returns false'. Refute it at one input. -/
def fnExactAgreedMembersWrong : ChangeSpec := { name := "fnExactAgreedMembers", fn := fun _ => fun
  | [d] => { results := [.lit (.bool false)], args := [d] }
  | _ => none }
def FnExactAgreedMembersWrongFalsely : Prop := fnExactAgreedMembersRow.holds Try.pinned (OpenSpec.ofChange fnExactAgreedMembersWrong)

/-- 'laws.FnExactCliqueOf': WHATEVER THE INPUT: true; the input reads as it did. -/
def fnExactCliqueOfSpec : ChangeSpec := { name := "fnExactCliqueOf", fn := fun _ => fun
  | [d1, d2] => { results := [.lit (.bool true)], args := [d1, d2] }
  | _ => none }
def fnExactCliqueOfRow : OpenClaim := { program := "ytkidhilipeoliaa", sum := "498568ca030b7ab4d80aa387719c77fb5280e22156babc3294f8b8d82889ab16", func := "loop.example/g00833/laws.FnExactCliqueOf", spec := "fnExactCliqueOf", apart := false }
def FnExactCliqueOfSaid : Prop := fnExactCliqueOfRow.holds Try.pinned (OpenSpec.ofChange fnExactCliqueOfSpec)

/-- ITS FALSE NEIGHBOUR: 'it returns false'. Refute it at one input. -/
def fnExactCliqueOfWrong : ChangeSpec := { name := "fnExactCliqueOf", fn := fun _ => fun
  | [d1, d2] => { results := [.lit (.bool false)], args := [d1, d2] }
  | _ => none }
def FnExactCliqueOfWrongFalsely : Prop := fnExactCliqueOfRow.holds Try.pinned (OpenSpec.ofChange fnExactCliqueOfWrong)

/-- 'laws.FnExactIsMajority': WHATEVER THE INPUT: true; the input reads as it did. -/
def fnExactIsMajoritySpec : ChangeSpec := { name := "fnExactIsMajority", fn := fun _ => fun
  | [d1, d2] => { results := [.lit (.bool true)], args := [d1, d2] }
  | _ => none }
def fnExactIsMajorityRow : OpenClaim := { program := "ytkidhilipeoliaa", sum := "498568ca030b7ab4d80aa387719c77fb5280e22156babc3294f8b8d82889ab16", func := "loop.example/g00833/laws.FnExactIsMajority", spec := "fnExactIsMajority", apart := false }
def FnExactIsMajoritySaid : Prop := fnExactIsMajorityRow.holds Try.pinned (OpenSpec.ofChange fnExactIsMajoritySpec)

/-- ITS FALSE NEIGHBOUR: 'it returns false'. Refute it at one input. -/
def fnExactIsMajorityWrong : ChangeSpec := { name := "fnExactIsMajority", fn := fun _ => fun
  | [d1, d2] => { results := [.lit (.bool false)], args := [d1, d2] }
  | _ => none }
def FnExactIsMajorityWrongFalsely : Prop := fnExactIsMajorityRow.holds Try.pinned (OpenSpec.ofChange fnExactIsMajorityWrong)

/-- 'laws.FnExactAcknowledgeBy': WHATEVER THE INPUT: true; the input reads as it did. -/
def fnExactAcknowledgeBySpec : ChangeSpec := { name := "fnExactAcknowledgeBy", fn := fun _ => fun
  | [d1, d2, d3, d4] => { results := [.lit (.bool true)], args := [d1, d2, d3, d4] }
  | _ => none }
def fnExactAcknowledgeByRow : OpenClaim := { program := "ytkidhilipeoliaa", sum := "498568ca030b7ab4d80aa387719c77fb5280e22156babc3294f8b8d82889ab16", func := "loop.example/g00833/laws.FnExactAcknowledgeBy", spec := "fnExactAcknowledgeBy", apart := false }
def FnExactAcknowledgeBySaid : Prop := fnExactAcknowledgeByRow.holds Try.pinned (OpenSpec.ofChange fnExactAcknowledgeBySpec)

/-- ITS FALSE NEIGHBOUR: 'it returns false'. Refute it at one input. -/
def fnExactAcknowledgeByWrong : ChangeSpec := { name := "fnExactAcknowledgeBy", fn := fun _ => fun
  | [d1, d2, d3, d4] => { results := [.lit (.bool false)], args := [d1, d2, d3, d4] }
  | _ => none }
def FnExactAcknowledgeByWrongFalsely : Prop := fnExactAcknowledgeByRow.holds Try.pinned (OpenSpec.ofChange fnExactAcknowledgeByWrong)

/- THE SECOND FORM. 'bulk': how many values and letters a reading holds, each counted each time it is reached (what is shared counts as often as it is met; a slice's spare places count too). A statement '..UptoSaid' is the law's where the arguments, and the package variables that the reading takes, are together of bulk at most 1048576: NARROWER than '..Said'. Prove '..Said' where nothing that the law and all that it calls make is longer than what came in: it says more and counts as full. Else prove '..UptoSaid'. A law counts once. -/
mutual
def uptoBulk {H : Type} : DataW H → Nat
  | .lit (.string bytes) => bytes.length + 1
  | .lit _ => 1
  | .nil => 1
  | .ptr d => uptoBulk d + 1
  | .slice elems spare => uptoBulkAll elems + uptoBulkAll spare + 1
  | .agg parts => uptoBulkAll parts + 1
  | .iface _ d => uptoBulk d + 1
  | .map entries => uptoBulkEntries entries + 1
  | .held _ => 1
def uptoBulkAll {H : Type} : List (DataW H) → Nat
  | [] => 0
  | d :: r => uptoBulk d + uptoBulkAll r
def uptoBulkEntries {H : Type} : List (Lit × DataW H) → Nat
  | [] => 0
  | x :: r => uptoBulkEntry x + uptoBulkEntries r
def uptoBulkEntry {H : Type} : Lit × DataW H → Nat
  | (.string bytes, d) => bytes.length + uptoBulk d + 1
  | (_, d) => uptoBulk d + 1
 end
def uptoSmall : (H : Type) → List (DataW H) → Bool := fun _ ds => decide (uptoBulkAll ds ≤ 1048576)
def OpenSpec.upto (s : _root_.Go.ChangeSpec) : _root_.Go.OpenSpec := { _root_.Go.OpenSpec.ofChange s with cond := some uptoSmall }

/-- 'laws.FnVectors', WHERE WHAT IT READS IS OF BULK AT MOST 1048576: true; the input reads as it did. -/
def fnVectorsUptoRow : OpenClaim := { program := "ytkidhilipeoliaa", sum := "498568ca030b7ab4d80aa387719c77fb5280e22156babc3294f8b8d82889ab16", func := "loop.example/g00833/laws.FnVectors", spec := "fnVectors", apart := false, narrowed := true }
def FnVectorsUptoSaid : Prop := fnVectorsUptoRow.holds Try.pinned (OpenSpec.upto fnVectorsSpec)

/-- 'laws.FnAgreed', WHERE WHAT IT READS IS OF BULK AT MOST 1048576: true; the input reads as it did. -/
def fnAgreedUptoRow : OpenClaim := { program := "ytkidhilipeoliaa", sum := "498568ca030b7ab4d80aa387719c77fb5280e22156babc3294f8b8d82889ab16", func := "loop.example/g00833/laws.FnAgreed", spec := "fnAgreed", apart := false, narrowed := true }
def FnAgreedUptoSaid : Prop := fnAgreedUptoRow.holds Try.pinned (OpenSpec.upto fnAgreedSpec)

/-- 'laws.FnCliques', WHERE WHAT IT READS IS OF BULK AT MOST 1048576: true; the input reads as it did. -/
def fnCliquesUptoRow : OpenClaim := { program := "ytkidhilipeoliaa", sum := "498568ca030b7ab4d80aa387719c77fb5280e22156babc3294f8b8d82889ab16", func := "loop.example/g00833/laws.FnCliques", spec := "fnCliques", apart := false, narrowed := true }
def FnCliquesUptoSaid : Prop := fnCliquesUptoRow.holds Try.pinned (OpenSpec.upto fnCliquesSpec)

/-- 'laws.FnAcknowledged', WHERE WHAT IT READS IS OF BULK AT MOST 1048576: true; the input reads as it did. -/
def fnAcknowledgedUptoRow : OpenClaim := { program := "ytkidhilipeoliaa", sum := "498568ca030b7ab4d80aa387719c77fb5280e22156babc3294f8b8d82889ab16", func := "loop.example/g00833/laws.FnAcknowledged", spec := "fnAcknowledged", apart := false, narrowed := true }
def FnAcknowledgedUptoSaid : Prop := fnAcknowledgedUptoRow.holds Try.pinned (OpenSpec.upto fnAcknowledgedSpec)

/-- 'laws.FnExactHasMember', WHERE WHAT IT READS IS OF BULK AT MOST 1048576: true; the input reads as it did. -/
def fnExactHasMemberUptoRow : OpenClaim := { program := "ytkidhilipeoliaa", sum := "498568ca030b7ab4d80aa387719c77fb5280e22156babc3294f8b8d82889ab16", func := "loop.example/g00833/laws.FnExactHasMember", spec := "fnExactHasMember", apart := false, narrowed := true }
def FnExactHasMemberUptoSaid : Prop := fnExactHasMemberUptoRow.holds Try.pinned (OpenSpec.upto fnExactHasMemberSpec)

/-- 'laws.FnExactSetMember', WHERE WHAT IT READS IS OF BULK AT MOST 1048576: true; the input reads as it did. -/
def fnExactSetMemberUptoRow : OpenClaim := { program := "ytkidhilipeoliaa", sum := "498568ca030b7ab4d80aa387719c77fb5280e22156babc3294f8b8d82889ab16", func := "loop.example/g00833/laws.FnExactSetMember", spec := "fnExactSetMember", apart := false, narrowed := true }
def FnExactSetMemberUptoSaid : Prop := fnExactSetMemberUptoRow.holds Try.pinned (OpenSpec.upto fnExactSetMemberSpec)

/-- 'laws.FnExactMembersOf', WHERE WHAT IT READS IS OF BULK AT MOST 1048576: true; the input reads as it did. -/
def fnExactMembersOfUptoRow : OpenClaim := { program := "ytkidhilipeoliaa", sum := "498568ca030b7ab4d80aa387719c77fb5280e22156babc3294f8b8d82889ab16", func := "loop.example/g00833/laws.FnExactMembersOf", spec := "fnExactMembersOf", apart := false, narrowed := true }
def FnExactMembersOfUptoSaid : Prop := fnExactMembersOfUptoRow.holds Try.pinned (OpenSpec.upto fnExactMembersOfSpec)

/-- 'laws.FnExactVectorOf', WHERE WHAT IT READS IS OF BULK AT MOST 1048576: true; the input reads as it did. -/
def fnExactVectorOfUptoRow : OpenClaim := { program := "ytkidhilipeoliaa", sum := "498568ca030b7ab4d80aa387719c77fb5280e22156babc3294f8b8d82889ab16", func := "loop.example/g00833/laws.FnExactVectorOf", spec := "fnExactVectorOf", apart := false, narrowed := true }
def FnExactVectorOfUptoSaid : Prop := fnExactVectorOfUptoRow.holds Try.pinned (OpenSpec.upto fnExactVectorOfSpec)

/-- 'laws.FnExactAgreedMembers', WHERE WHAT IT READS IS OF BULK AT MOST 1048576: true; the input reads as it did. -/
def fnExactAgreedMembersUptoRow : OpenClaim := { program := "ytkidhilipeoliaa", sum := "498568ca030b7ab4d80aa387719c77fb5280e22156babc3294f8b8d82889ab16", func := "loop.example/g00833/laws.FnExactAgreedMembers", spec := "fnExactAgreedMembers", apart := false, narrowed := true }
def FnExactAgreedMembersUptoSaid : Prop := fnExactAgreedMembersUptoRow.holds Try.pinned (OpenSpec.upto fnExactAgreedMembersSpec)

/-- 'laws.FnExactCliqueOf', WHERE WHAT IT READS IS OF BULK AT MOST 1048576: true; the input reads as it did. -/
def fnExactCliqueOfUptoRow : OpenClaim := { program := "ytkidhilipeoliaa", sum := "498568ca030b7ab4d80aa387719c77fb5280e22156babc3294f8b8d82889ab16", func := "loop.example/g00833/laws.FnExactCliqueOf", spec := "fnExactCliqueOf", apart := false, narrowed := true }
def FnExactCliqueOfUptoSaid : Prop := fnExactCliqueOfUptoRow.holds Try.pinned (OpenSpec.upto fnExactCliqueOfSpec)

/-- 'laws.FnExactIsMajority', WHERE WHAT IT READS IS OF BULK AT MOST 1048576: true; the input reads as it did. -/
def fnExactIsMajorityUptoRow : OpenClaim := { program := "ytkidhilipeoliaa", sum := "498568ca030b7ab4d80aa387719c77fb5280e22156babc3294f8b8d82889ab16", func := "loop.example/g00833/laws.FnExactIsMajority", spec := "fnExactIsMajority", apart := false, narrowed := true }
def FnExactIsMajorityUptoSaid : Prop := fnExactIsMajorityUptoRow.holds Try.pinned (OpenSpec.upto fnExactIsMajoritySpec)

/-- 'laws.FnExactAcknowledgeBy', WHERE WHAT IT READS IS OF BULK AT MOST 1048576: true; the input reads as it did. -/
def fnExactAcknowledgeByUptoRow : OpenClaim := { program := "ytkidhilipeoliaa", sum := "498568ca030b7ab4d80aa387719c77fb5280e22156babc3294f8b8d82889ab16", func := "loop.example/g00833/laws.FnExactAcknowledgeBy", spec := "fnExactAcknowledgeBy", apart := false, narrowed := true }
def FnExactAcknowledgeByUptoSaid : Prop := fnExactAcknowledgeByUptoRow.holds Try.pinned (OpenSpec.upto fnExactAcknowledgeBySpec)

end Rows
end Go.Proofs.Ytkidhilipeoliaa
