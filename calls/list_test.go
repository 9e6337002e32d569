package calls

import (
	"scarfjoint/api"
	"scarfjoint/attribute"
	"scarfjoint/canon"
	"scarfjoint/checker"
	"scarfjoint/complement"
	"scarfjoint/concurrent"
	"scarfjoint/condition"
	"scarfjoint/confluence"
	"scarfjoint/constraint"
	"scarfjoint/counting"
	"scarfjoint/critical"
	"scarfjoint/derivation"
	"scarfjoint/difference"
	"scarfjoint/embed"
	"scarfjoint/exchange"
	"scarfjoint/explain"
	"scarfjoint/factor"
	"scarfjoint/graph"
	"scarfjoint/graphtext"
	"scarfjoint/host"
	"scarfjoint/incremental"
	"scarfjoint/independence"
	"scarfjoint/interpreter"
	"scarfjoint/invariant"
	"scarfjoint/iso"
	"scarfjoint/join"
	"scarfjoint/layering"
	"scarfjoint/merge"
	"scarfjoint/morphism"
	"scarfjoint/parallel"
	"scarfjoint/partition"
	"scarfjoint/plan"
	"scarfjoint/precondition"
	"scarfjoint/program"
	"scarfjoint/pullback"
	"scarfjoint/pushout"
	"scarfjoint/refute"
	"scarfjoint/reverse"
	"scarfjoint/rule"
	"scarfjoint/ruletext"
	"scarfjoint/search"
	"scarfjoint/shift"
	"scarfjoint/square"
	"scarfjoint/statespace"
	"scarfjoint/statistic"
	"scarfjoint/step"
	"scarfjoint/store"
	"scarfjoint/subgraph"
	"scarfjoint/synchronise"
	"scarfjoint/temporal"
	"scarfjoint/token"
	"scarfjoint/transaction"
	"scarfjoint/translate"
	"scarfjoint/transport"
	"scarfjoint/triple"
	"scarfjoint/triplerule"
	"scarfjoint/types"
	"scarfjoint/unfolding"
	"scarfjoint/version"
	"scarfjoint/weight"
	"scarfjoint/workbench"
)

// call is a function that a chapter lists.
type call struct {
	name string
	do   any
}

// all has the functions of all layers. The conversions compile only while the signatures are those of the chapters.
var all = []call{
	// token
	{"token.Tokens", (func(string) ([]api.Token, int, api.Errno))(token.Tokens)},
	{"token.Write", (func([]api.Token) (string, api.Errno))(token.Write)},
	{"token.IsName", (func(string) bool)(token.IsName)},
	{"token.Number", (func(string) (int, api.Errno))(token.Number)},
	{"token.Same", (func([]api.Token, []api.Token) bool)(token.Same)},

	// partition
	{"partition.Valid", (func([]int) bool)(partition.Valid)},
	{"partition.Generate", (func(int, []api.Pair) ([]int, api.Errno))(partition.Generate)},
	{"partition.Join", (func([]int, []int) ([]int, api.Errno))(partition.Join)},
	{"partition.Meet", (func([]int, []int) ([]int, api.Errno))(partition.Meet)},
	{"partition.Finer", (func([]int, []int) bool)(partition.Finer)},
	{"partition.Classes", (func([]int) ([][]int, api.Errno))(partition.Classes)},
	{"partition.Quotient", (func([]int) ([]int, int, api.Errno))(partition.Quotient)},
	{"partition.All", (func(int) ([][]int, api.Errno))(partition.All)},

	// difference
	{"difference.Valid", (func(int, []api.Test) api.Errno)(difference.Valid)},
	{"difference.Holds", (func(api.Test, []int) bool)(difference.Holds)},
	{"difference.Solve", (func(int, []api.Test) ([]int, api.Errno))(difference.Solve)},
	{"difference.Refute", (func(int, []api.Test) ([]api.Use, api.Errno))(difference.Refute)},
	{"difference.CheckRefute", (func(int, []api.Test, []api.Use) bool)(difference.CheckRefute)},
	{"difference.Implies", (func(int, []api.Test, api.Test) (bool, api.Errno))(difference.Implies)},
	{"difference.Reduce", (func(int, []api.Test) ([]api.Test, api.Errno))(difference.Reduce)},

	// types
	{"types.Valid", (func(api.Types) (string, api.Errno))(types.Valid)},
	{"types.Is", (func(api.Types, int, int) bool)(types.Is)},
	{"types.Ancestors", (func(api.Types, int) ([]int, api.Errno))(types.Ancestors)},
	{"types.Below", (func(api.Types, int) ([]int, api.Errno))(types.Below)},
	{"types.Attrs", (func(api.Types, int) ([]api.Attr, api.Errno))(types.Attrs)},
	{"types.Fits", (func(api.Types, int, int, int) bool)(types.Fits)},
	{"types.Meet", (func(api.Types, int, int) (int, api.Errno))(types.Meet)},
	{"types.Join", (func(api.Types, int, int) (int, api.Errno))(types.Join)},

	// graph
	{"graph.Valid", (func(api.Graph) api.Errno)(graph.Valid)},
	{"graph.AddNode", (func(api.Graph, int) (api.Graph, int, api.Errno))(graph.AddNode)},
	{"graph.AddEdge", (func(api.Graph, api.Edge) (api.Graph, int, api.Errno))(graph.AddEdge)},
	{"graph.Remove", (func(api.Graph, []int, []int) (api.Graph, api.Morphism, api.Errno))(graph.Remove)},
	{"graph.Union", (func(api.Graph, api.Graph) (api.Graph, api.Morphism, api.Morphism, api.Errno))(graph.Union)},
	{"graph.Incident", (func(api.Graph, int) ([]int, []int, api.Errno))(graph.Incident)},
	{"graph.Components", (func(api.Graph) ([]api.Part, api.Errno))(graph.Components)},
	{"graph.Reorder", (func(api.Graph, api.Morphism) (api.Graph, api.Errno))(graph.Reorder)},
	{"graph.Same", (func(api.Graph, api.Graph) bool)(graph.Same)},

	// morphism
	{"morphism.Valid", (func(api.Graph, api.Graph, api.Morphism) api.Errno)(morphism.Valid)},
	{"morphism.Identity", (func(api.Graph) (api.Morphism, api.Errno))(morphism.Identity)},
	{"morphism.Compose", (func(api.Graph, api.Graph, api.Graph, api.Morphism, api.Morphism) (api.Morphism, api.Errno))(morphism.Compose)},
	{"morphism.Injective", (func(api.Graph, api.Graph, api.Morphism) bool)(morphism.Injective)},
	{"morphism.Surjective", (func(api.Graph, api.Graph, api.Morphism) bool)(morphism.Surjective)},
	{"morphism.Inverse", (func(api.Graph, api.Graph, api.Morphism) (api.Morphism, api.Errno))(morphism.Inverse)},
	{"morphism.All", (func(api.Graph, api.Graph) ([]api.Morphism, api.Errno))(morphism.All)},
	{"morphism.Same", (func(api.Morphism, api.Morphism) bool)(morphism.Same)},

	// subgraph
	{"subgraph.Valid", (func(api.Graph, api.Part) api.Errno)(subgraph.Valid)},
	{"subgraph.Close", (func(api.Graph, []int, []int) (api.Part, api.Errno))(subgraph.Close)},
	{"subgraph.Join", (func(api.Graph, api.Part, api.Part) (api.Part, api.Errno))(subgraph.Join)},
	{"subgraph.Meet", (func(api.Graph, api.Part, api.Part) (api.Part, api.Errno))(subgraph.Meet)},
	{"subgraph.Extract", (func(api.Graph, api.Part) (api.Graph, api.Morphism, api.Errno))(subgraph.Extract)},
	{"subgraph.Image", (func(api.Graph, api.Graph, api.Morphism) (api.Part, api.Errno))(subgraph.Image)},
	{"subgraph.Preimage", (func(api.Graph, api.Graph, api.Morphism, api.Part) (api.Part, api.Errno))(subgraph.Preimage)},
	{"subgraph.Boundary", (func(api.Graph, api.Part) ([]int, api.Errno))(subgraph.Boundary)},
	{"subgraph.All", (func(api.Graph) ([]api.Part, api.Errno))(subgraph.All)},

	// iso
	{"iso.Refine", (func(api.Graph) ([]int, api.Errno))(iso.Refine)},
	{"iso.Find", (func(api.Graph, api.Graph) (api.Morphism, api.Errno))(iso.Find)},
	{"iso.All", (func(api.Graph, api.Graph) ([]api.Morphism, api.Errno))(iso.All)},
	{"iso.Orbits", (func(api.Graph) ([]int, api.Errno))(iso.Orbits)},
	{"iso.Reason", (func(api.Graph, api.Graph) (api.Differ, api.Errno))(iso.Reason)},
	{"iso.CheckReason", (func(api.Graph, api.Graph, api.Differ) bool)(iso.CheckReason)},

	// canon
	{"canon.CodeIn", (func(api.Graph, []int) ([]int, api.Errno))(canon.CodeIn)},
	{"canon.Of", (func(api.Graph) (api.Graph, api.Morphism, api.Errno))(canon.Of)},
	{"canon.Code", (func(api.Graph) ([]int, api.Errno))(canon.Code)},
	{"canon.Decode", (func([]int) (api.Graph, api.Errno))(canon.Decode)},
	{"canon.Compare", (func(api.Graph, api.Graph) (int, api.Errno))(canon.Compare)},
	{"canon.Classify", (func([]api.Graph) ([]int, api.Errno))(canon.Classify)},

	// pushout
	{"pushout.Of", (func(api.Span) (api.Graph, api.Morphism, api.Morphism, api.Errno))(pushout.Of)},
	{"pushout.Mediate", (func(api.Span, api.Graph, api.Morphism, api.Morphism) (api.Morphism, api.Errno))(pushout.Mediate)},
	{"pushout.Check", (func(api.Span, api.Graph, api.Morphism, api.Morphism) bool)(pushout.Check)},
	{"pushout.Coequalizer", (func(api.Graph, api.Graph, api.Morphism, api.Morphism) (api.Graph, api.Morphism, api.Errno))(pushout.Coequalizer)},
	{"pushout.Several", (func(api.Graph, []api.Graph, []api.Morphism) (api.Graph, []api.Morphism, api.Errno))(pushout.Several)},

	// pullback
	{"pullback.Of", (func(api.Cospan) (api.Graph, api.Morphism, api.Morphism, api.Errno))(pullback.Of)},
	{"pullback.Mediate", (func(api.Cospan, api.Graph, api.Morphism, api.Morphism) (api.Morphism, api.Errno))(pullback.Mediate)},
	{"pullback.Check", (func(api.Cospan, api.Graph, api.Morphism, api.Morphism) bool)(pullback.Check)},
	{"pullback.Equalizer", (func(api.Graph, api.Graph, api.Morphism, api.Morphism) (api.Part, api.Errno))(pullback.Equalizer)},
	{"pullback.Kernel", (func(api.Graph, api.Graph, api.Morphism) ([]api.Pair, []api.Pair, api.Errno))(pullback.Kernel)},

	// complement
	{"complement.Dangling", (func(api.Graph, api.Graph, api.Part, api.Morphism) ([]int, api.Errno))(complement.Dangling)},
	{"complement.Identified", (func(api.Graph, api.Graph, api.Part, api.Morphism) ([]api.Pair, []api.Pair, api.Errno))(complement.Identified)},
	{"complement.Of", (func(api.Graph, api.Graph, api.Part, api.Morphism) (api.Part, api.Errno))(complement.Of)},
	{"complement.Check", (func(api.Graph, api.Graph, api.Part, api.Morphism, api.Part) bool)(complement.Check)},
	{"complement.Repair", (func(api.Graph, api.Graph, api.Part, api.Morphism) (api.Part, api.Errno))(complement.Repair)},

	// factor
	{"factor.Factor", (func(api.Graph, api.Graph, api.Morphism) (api.Graph, api.Morphism, api.Morphism, api.Errno))(factor.Factor)},
	{"factor.Jointly", (func(api.Graph, api.Graph, api.Graph, api.Morphism, api.Morphism) bool)(factor.Jointly)},
	{"factor.Overlaps", (func(api.Graph, api.Graph) ([]api.Overlap, api.Errno))(factor.Overlaps)},
	{"factor.Through", (func(api.Graph, api.Graph, api.Graph, api.Morphism, api.Morphism) (api.Overlap, api.Morphism, api.Errno))(factor.Through)},
	{"factor.Quotients", (func(api.Graph) ([]api.Quotient, api.Errno))(factor.Quotients)},

	// square
	{"square.Commutes", (func(api.Square) (bool, api.Errno))(square.Commutes)},
	{"square.Kind", (func(api.Square) (int, api.Errno))(square.Kind)},
	{"square.Paste", (func(api.Square, api.Square) (api.Square, api.Errno))(square.Paste)},
	{"square.Lift", (func(api.Square, api.Graph, api.Morphism) (api.Square, api.Errno))(square.Lift)},
	{"square.Initial", (func(api.Graph, api.Graph, api.Morphism) (api.Square, api.Errno))(square.Initial)},

	// host
	{"host.Valid", (func(api.Types, api.Host) (int, api.Errno))(host.Valid)},
	{"host.Excesses", (func(api.Types, api.Host) ([]api.Excess, api.Errno))(host.Excesses)},
	{"host.Set", (func(api.Types, api.Host, int, int, int) (api.Host, api.Errno))(host.Set)},
	{"host.Find", (func(api.Types, api.Host, api.Host) (api.Morphism, api.Errno))(host.Find)},
	{"host.Canonical", (func(api.Types, api.Host) (api.Host, api.Morphism, api.Errno))(host.Canonical)},
	{"host.Extract", (func(api.Types, api.Host, api.Part) (api.Host, api.Errno))(host.Extract)},
	{"host.Same", (func(api.Host, api.Host) bool)(host.Same)},

	// graphtext
	{"graphtext.FormatTypes", (func(api.Types) (string, api.Errno))(graphtext.FormatTypes)},
	{"graphtext.ParseTypes", (func(string) (api.Types, int, api.Errno))(graphtext.ParseTypes)},
	{"graphtext.FormatHost", (func(api.Types, api.Host) (string, api.Errno))(graphtext.FormatHost)},
	{"graphtext.ParseHost", (func(api.Types, string) (api.Host, int, api.Errno))(graphtext.ParseHost)},

	// search
	{"search.Check", (func(api.Types, api.Graph, api.Graph, api.Morphism, bool) api.Errno)(search.Check)},
	{"search.All", (func(api.Types, api.Graph, api.Graph, bool) ([]api.Morphism, api.Errno))(search.All)},
	{"search.First", (func(api.Types, api.Graph, api.Graph, bool) (api.Morphism, api.Errno))(search.First)},
	{"search.Count", (func(api.Types, api.Graph, api.Graph, bool) (int, api.Errno))(search.Count)},
	{"search.Extend", (func(api.Types, api.Graph, api.Graph, api.Morphism, bool) ([]api.Morphism, api.Errno))(search.Extend)},
	{"search.Instance", (func(api.Types, api.Graph, api.Graph, api.Morphism) (api.Graph, api.Errno))(search.Instance)},

	// statistic
	{"statistic.Of", (func(api.Types, api.Graph) (api.Statistic, api.Errno))(statistic.Of)},
	{"statistic.Valid", (func(api.Types, api.Statistic) api.Errno)(statistic.Valid)},
	{"statistic.Node", (func(api.Types, api.Statistic, int, int) (api.Statistic, api.Errno))(statistic.Node)},
	{"statistic.Edge", (func(api.Types, api.Statistic, int, int, int, int) (api.Statistic, api.Errno))(statistic.Edge)},
	{"statistic.Nodes", (func(api.Types, api.Statistic, int) (int, api.Errno))(statistic.Nodes)},
	{"statistic.Edges", (func(api.Types, api.Statistic, int, int, int) (int, api.Errno))(statistic.Edges)},
	{"statistic.Same", (func(api.Statistic, api.Statistic) bool)(statistic.Same)},

	// plan
	{"plan.Valid", (func(api.Graph, []api.Operation) api.Errno)(plan.Valid)},
	{"plan.Cost", (func(api.Types, api.Statistic, api.Graph, []api.Operation) (int, api.Errno))(plan.Cost)},
	{"plan.Best", (func(api.Types, api.Statistic, api.Graph) ([]api.Operation, int, api.Errno))(plan.Best)},
	{"plan.Run", (func(api.Types, api.Graph, api.Graph, []api.Operation, bool) ([]api.Morphism, []int, api.Errno))(plan.Run)},
	{"plan.Plain", (func(api.Graph) ([]api.Operation, api.Errno))(plan.Plain)},

	// incremental
	{"incremental.New", (func(api.Types, []api.Graph, api.Graph, bool) (api.Watch, api.Errno))(incremental.New)},
	{"incremental.Valid", (func(api.Types, api.Watch) api.Errno)(incremental.Valid)},
	{"incremental.Apply", (func(api.Types, api.Watch, api.Edit) (api.Watch, []api.Delta, api.Errno))(incremental.Apply)},
	{"incremental.Run", (func(api.Types, api.Watch, []api.Edit) (api.Watch, int, api.Errno))(incremental.Run)},
	{"incremental.Opposite", (func(api.Graph, api.Edit) (api.Edit, api.Errno))(incremental.Opposite)},

	// attribute
	{"attribute.Valid", (func(api.Types, api.Pattern) api.Errno)(attribute.Valid)},
	{"attribute.Solve", (func(api.Types, api.Pattern, api.Host, api.Morphism) ([]int, api.Errno))(attribute.Solve)},
	{"attribute.Matches", (func(api.Types, api.Pattern, api.Host, bool) ([]api.Match, api.Errno))(attribute.Matches)},
	{"attribute.Term", (func(api.Term, []int) (int, api.Errno))(attribute.Term)},
	{"attribute.Ground", (func(api.Types, api.Pattern, []int) (api.Pattern, api.Errno))(attribute.Ground)},
	{"attribute.Contradiction", (func(api.Types, api.Pattern) ([]api.Use, api.Errno))(attribute.Contradiction)},
	{"attribute.Example", (func(api.Types, api.Pattern) (api.Host, []int, api.Errno))(attribute.Example)},

	// condition
	{"condition.Valid", (func(api.Types, api.Pattern, api.Condition) api.Errno)(condition.Valid)},
	{"condition.Satisfies", (func(api.Types, api.Pattern, api.Condition, api.Host, api.Match, bool) (bool, api.Errno))(condition.Satisfies)},
	{"condition.Witness", (func(api.Types, api.Pattern, api.Condition, api.Host, api.Match, bool) (api.Proof, api.Errno))(condition.Witness)},
	{"condition.CheckWitness", (func(api.Types, api.Pattern, api.Condition, api.Host, api.Match, bool, api.Proof) bool)(condition.CheckWitness)},
	{"condition.Simplify", (func(api.Condition) (api.Condition, api.Errno))(condition.Simplify)},
	{"condition.Same", (func(api.Condition, api.Condition) bool)(condition.Same)},

	// explain
	{"explain.Explain", (func(api.Types, api.Pattern, api.Condition, api.Host, api.Match, bool) ([]api.Reason, api.Errno))(explain.Explain)},
	{"explain.Check", (func(api.Types, api.Pattern, api.Condition, api.Host, api.Match, bool, []api.Reason) bool)(explain.Check)},
	{"explain.Text", (func(api.Types, api.Host, []api.Reason) ([]string, api.Errno))(explain.Text)},
	{"explain.Repair", (func(api.Types, api.Pattern, api.Condition, api.Host, api.Match) ([]int, api.Errno))(explain.Repair)},

	// rule
	{"rule.Valid", (func(api.Types, api.Rule) api.Errno)(rule.Valid)},
	{"rule.Deleted", (func(api.Types, api.Rule) ([]int, []int, api.Errno))(rule.Deleted)},
	{"rule.Created", (func(api.Types, api.Rule) ([]int, []int, api.Errno))(rule.Created)},
	{"rule.Kept", (func(api.Types, api.Rule) ([]api.Pair, []api.Pair, api.Errno))(rule.Kept)},
	{"rule.Plain", (func(api.Rule) (api.Rule, api.Errno))(rule.Plain)},
	{"rule.Inverse", (func(api.Types, api.Rule) (api.Rule, api.Errno))(rule.Inverse)},
	{"rule.Specialize", (func(api.Types, api.Rule, api.Graph, api.Morphism) (api.Rule, api.Errno))(rule.Specialize)},
	{"rule.Same", (func(api.Rule, api.Rule) bool)(rule.Same)},

	// ruletext
	{"ruletext.Format", (func(api.Types, api.Rule) (string, api.Errno))(ruletext.Format)},
	{"ruletext.Parse", (func(api.Types, string) (api.Rule, int, api.Errno))(ruletext.Parse)},
	{"ruletext.FormatAll", (func(api.Types, []api.Rule) (string, api.Errno))(ruletext.FormatAll)},
	{"ruletext.ParseAll", (func(api.Types, string) ([]api.Rule, int, api.Errno))(ruletext.ParseAll)},

	// step
	{"step.Apply", (func(api.Types, api.Rule, api.Host, api.Match) (api.Step, api.Errno))(step.Apply)},
	{"step.Applicable", (func(api.Types, api.Rule, api.Host) ([]api.Match, api.Errno))(step.Applicable)},
	{"step.Check", (func(api.Types, api.Step) bool)(step.Check)},
	{"step.Squares", (func(api.Types, api.Step) (api.Square, api.Square, api.Errno))(step.Squares)},
	{"step.Same", (func(api.Step, api.Step) bool)(step.Same)},

	// reverse
	{"reverse.Rule", (func(api.Types, api.Step) (api.Rule, api.Errno))(reverse.Rule)},
	{"reverse.Undo", (func(api.Types, api.Step) (api.Step, api.Morphism, api.Errno))(reverse.Undo)},
	{"reverse.UndoAll", (func(api.Types, []api.Step) ([]api.Step, api.Morphism, api.Errno))(reverse.UndoAll)},
	{"reverse.Before", (func(api.Types, api.Rule, api.Host) ([]api.Step, api.Errno))(reverse.Before)},

	// derivation
	{"derivation.Replay", (func(api.Types, []api.Rule, api.Derivation) ([]api.Step, int, api.Errno))(derivation.Replay)},
	{"derivation.Final", (func(api.Types, []api.Rule, api.Derivation) (api.Host, api.Morphism, api.Errno))(derivation.Final)},
	{"derivation.Append", (func(api.Types, []api.Rule, api.Derivation, api.Move) (api.Derivation, api.Errno))(derivation.Append)},
	{"derivation.Choose", (func(api.Types, []api.Rule, api.Host, []int) (api.Derivation, api.Errno))(derivation.Choose)},
	{"derivation.Transfer", (func(api.Types, []api.Rule, api.Derivation, api.Host, api.Morphism) (api.Derivation, api.Errno))(derivation.Transfer)},
	{"derivation.Format", (func(api.Derivation) (string, api.Errno))(derivation.Format)},
	{"derivation.Parse", (func(api.Types, api.Host, string) (api.Derivation, int, api.Errno))(derivation.Parse)},

	// independence
	{"independence.Parallel", (func(api.Types, api.Step, api.Step) ([]api.Clash, api.Errno))(independence.Parallel)},
	{"independence.Residual", (func(api.Types, api.Step, api.Step) (api.Match, api.Errno))(independence.Residual)},
	{"independence.Sequential", (func(api.Types, api.Step, api.Step) ([]api.Clash, api.Errno))(independence.Sequential)},
	{"independence.Earlier", (func(api.Types, api.Step, api.Step) (api.Match, api.Errno))(independence.Earlier)},
	{"independence.Dependencies", (func(api.Types, []api.Step) ([]api.Pair, api.Errno))(independence.Dependencies)},

	// exchange
	{"exchange.Diamond", (func(api.Types, api.Step, api.Step) (api.Diamond, api.Errno))(exchange.Diamond)},
	{"exchange.Exchange", (func(api.Types, api.Step, api.Step) (api.Step, api.Step, api.Morphism, api.Errno))(exchange.Exchange)},
	{"exchange.Normalize", (func(api.Types, []api.Rule, api.Derivation) (api.Derivation, int, api.Errno))(exchange.Normalize)},
	{"exchange.Swap", (func(api.Types, []api.Rule, api.Derivation, int) (api.Derivation, api.Errno))(exchange.Swap)},
	{"exchange.Check", (func(api.Types, api.Diamond) bool)(exchange.Check)},

	// parallel
	{"parallel.Union", (func(api.Types, api.Rule, api.Rule) (api.Rule, api.Morphism, api.Morphism, api.Errno))(parallel.Union)},
	{"parallel.Amalgamate", (func(api.Types, api.Rule, api.Rule, api.Overlap) (api.Rule, api.Errno))(parallel.Amalgamate)},
	{"parallel.Together", (func(api.Types, api.Step, api.Step) (api.Step, api.Morphism, api.Errno))(parallel.Together)},
	{"parallel.Apart", (func(api.Types, api.Rule, api.Rule, api.Step) (api.Step, api.Step, api.Errno))(parallel.Apart)},
	{"parallel.Greedy", (func(api.Types, []api.Step) ([]int, api.Errno))(parallel.Greedy)},

	// concurrent
	{"concurrent.Rule", (func(api.Types, api.Rule, api.Rule, api.Overlap) (api.Rule, api.Errno))(concurrent.Rule)},
	{"concurrent.Overlaps", (func(api.Types, api.Rule, api.Rule) ([]api.Overlap, api.Errno))(concurrent.Overlaps)},
	{"concurrent.Compose", (func(api.Types, api.Step, api.Step) (api.Overlap, api.Step, api.Morphism, api.Errno))(concurrent.Compose)},
	{"concurrent.Analyse", (func(api.Types, api.Rule, api.Rule, api.Overlap, api.Step) (api.Step, api.Step, api.Errno))(concurrent.Analyse)},

	// shift
	{"shift.Shift", (func(api.Graph, api.Graph, api.Morphism, api.Condition) (api.Condition, api.Errno))(shift.Shift)},
	{"shift.Valid", (func(api.Graph, api.Condition) api.Errno)(shift.Valid)},
	{"shift.Satisfies", (func(api.Graph, api.Condition, api.Graph, api.Morphism) (bool, api.Errno))(shift.Satisfies)},
	{"shift.Size", (func(api.Condition) (int, int, api.Errno))(shift.Size)},
	{"shift.Local", (func(api.Graph, api.Condition) (api.Condition, api.Errno))(shift.Local)},

	// transport
	{"transport.Left", (func(api.Rule, api.Condition) (api.Condition, api.Errno))(transport.Left)},
	{"transport.Right", (func(api.Rule, api.Condition) (api.Condition, api.Errno))(transport.Right)},
	{"transport.Applicable", (func(api.Types, api.Rule) (api.Condition, api.Errno))(transport.Applicable)},
	{"transport.Prune", (func(api.Types, api.Rule, api.Condition) (api.Condition, api.Errno))(transport.Prune)},

	// critical
	{"critical.Pairs", (func(api.Types, []api.Rule) ([]api.Critical, api.Errno))(critical.Pairs)},
	{"critical.Of", (func(api.Types, api.Rule, api.Rule) ([]api.Critical, api.Errno))(critical.Of)},
	{"critical.Check", (func(api.Types, []api.Rule, api.Critical) bool)(critical.Check)},
	{"critical.Classify", (func(api.Types, []api.Rule, []api.Critical) ([]int, api.Errno))(critical.Classify)},
	{"critical.Causes", (func(api.Types, []api.Rule, api.Critical) ([]api.Clash, api.Errno))(critical.Causes)},

	// embed
	{"embed.Find", (func(api.Types, []api.Rule, api.Step, api.Step) (api.Critical, api.Morphism, api.Errno))(embed.Find)},
	{"embed.Extend", (func(api.Types, api.Step, api.Host, api.Morphism) (api.Step, api.Errno))(embed.Extend)},
	{"embed.ExtendAll", (func(api.Types, []api.Rule, api.Derivation, api.Host, api.Morphism) (api.Derivation, int, api.Errno))(embed.ExtendAll)},
	{"embed.Restrict", (func(api.Types, api.Step, api.Part) (api.Step, api.Errno))(embed.Restrict)},

	// join
	{"join.Find", (func(api.Types, []api.Rule, api.Step, api.Step, int) (api.Join, api.Errno))(join.Find)},
	{"join.Check", (func(api.Types, []api.Rule, api.Step, api.Step, api.Join) (bool, bool))(join.Check)},
	{"join.Common", (func(api.Step, api.Step) (api.Part, api.Errno))(join.Common)},
	{"join.Strict", (func(api.Types, []api.Rule, api.Step, api.Step, int) (api.Join, api.Errno))(join.Strict)},

	// confluence
	{"confluence.Report", (func(api.Types, []api.Rule, int) (api.Confluence, api.Errno))(confluence.Report)},
	{"confluence.Check", (func(api.Types, []api.Rule, api.Confluence) bool)(confluence.Check)},
	{"confluence.Normal", (func(api.Types, []api.Rule, api.Host, int) ([]api.Host, api.Errno))(confluence.Normal)},
	{"confluence.Counter", (func(api.Types, []api.Rule, api.Host, int) (api.Derivation, api.Derivation, api.Errno))(confluence.Counter)},

	// weight
	{"weight.Effect", (func(api.Types, api.Rule) ([]int, api.Errno))(weight.Effect)},
	{"weight.Find", (func(api.Types, []api.Rule) ([]int, api.Errno))(weight.Find)},
	{"weight.Check", (func(api.Types, []api.Rule, []int) bool)(weight.Check)},
	{"weight.Refute", (func(api.Types, []api.Rule) ([]int, api.Errno))(weight.Refute)},
	{"weight.CheckRefute", (func(api.Types, []api.Rule, []int) bool)(weight.CheckRefute)},
	{"weight.Of", (func(api.Types, []int, api.Graph) (int, api.Errno))(weight.Of)},

	// layering
	{"layering.Find", (func(api.Types, []api.Rule) (api.Layering, api.Errno))(layering.Find)},
	{"layering.Check", (func(api.Types, []api.Rule, api.Layering) bool)(layering.Check)},
	{"layering.Reason", (func(api.Types, []api.Rule) ([]api.Demand, api.Errno))(layering.Reason)},
	{"layering.CheckReason", (func(api.Types, []api.Rule, []api.Demand) bool)(layering.CheckReason)},
	{"layering.Execute", (func(api.Types, []api.Rule, api.Layering, api.Host) (api.Derivation, api.Errno))(layering.Execute)},

	// counting
	{"counting.Find", (func(api.Types, []api.Rule) ([]api.Stage, api.Errno))(counting.Find)},
	{"counting.Check", (func(api.Types, []api.Rule, []api.Stage) bool)(counting.Check)},
	{"counting.Rank", (func(api.Types, []api.Stage, api.Graph) ([]int, api.Errno))(counting.Rank)},
	{"counting.Rest", (func(api.Types, []api.Rule) ([]int, api.Errno))(counting.Rest)},
	{"counting.Loop", (func(api.Types, []api.Rule, api.Host, int) (api.Derivation, api.Morphism, api.Errno))(counting.Loop)},

	// constraint
	{"constraint.Valid", (func(api.Types, api.Constraint) api.Errno)(constraint.Valid)},
	{"constraint.Violations", (func(api.Types, api.Constraint, api.Graph) ([]api.Morphism, api.Errno))(constraint.Violations)},
	{"constraint.Condition", (func(api.Constraint) (api.Condition, api.Errno))(constraint.Condition)},
	{"constraint.Multiplicities", (func(api.Types) ([]api.Constraint, api.Errno))(constraint.Multiplicities)},
	{"constraint.Subsumes", (func(api.Constraint, api.Constraint) (bool, api.Morphism, api.Errno))(constraint.Subsumes)},
	{"constraint.Format", (func(api.Types, api.Constraint) (string, api.Errno))(constraint.Format)},

	// precondition
	{"precondition.Guarantee", (func(api.Types, api.Rule, api.Constraint) (api.Condition, api.Errno))(precondition.Guarantee)},
	{"precondition.Preserve", (func(api.Types, api.Rule, api.Constraint) (api.Condition, api.Errno))(precondition.Preserve)},
	{"precondition.With", (func(api.Rule, api.Condition) (api.Rule, api.Errno))(precondition.With)},
	{"precondition.Ways", (func(api.Types, api.Rule, api.Constraint) ([]api.Overlap, api.Errno))(precondition.Ways)},

	// invariant
	{"invariant.Prove", (func(api.Types, []api.Rule, []api.Constraint) (api.Induction, api.Errno))(invariant.Prove)},
	{"invariant.Check", (func(api.Types, []api.Rule, []api.Constraint, api.Induction) bool)(invariant.Check)},
	{"invariant.Open", (func(api.Types, []api.Rule, []api.Constraint) ([]api.Obligation, api.Errno))(invariant.Open)},
	{"invariant.Strengthen", (func(api.Types, []api.Rule, []api.Constraint, int) ([]api.Constraint, api.Errno))(invariant.Strengthen)},

	// refute
	{"refute.Forward", (func(api.Types, []api.Rule, api.Host, []api.Constraint, int) (api.Derivation, int, api.Errno))(refute.Forward)},
	{"refute.Check", (func(api.Types, []api.Rule, api.Derivation, api.Constraint) bool)(refute.Check)},
	{"refute.Predecessors", (func(api.Types, api.Rule, api.Constraint) ([]api.Graph, api.Errno))(refute.Predecessors)},
	{"refute.Backward", (func(api.Types, []api.Rule, api.Constraint, int) ([]api.Graph, bool, api.Errno))(refute.Backward)},

	// program
	{"program.Valid", (func(api.Control, []api.Rule) (string, api.Errno))(program.Valid)},
	{"program.Format", (func(api.Control) (string, api.Errno))(program.Format)},
	{"program.Parse", (func(string) (api.Control, int, api.Errno))(program.Parse)},
	{"program.Uses", (func(api.Control, []api.Rule, string) ([]string, api.Errno))(program.Uses)},
	{"program.Expand", (func(api.Control, string) (api.Command, api.Errno))(program.Expand)},

	// interpreter
	{"interpreter.Run", (func(api.Types, []api.Rule, api.Control, string, api.Host, []int) (api.Outcome, api.Errno))(interpreter.Run)},
	{"interpreter.Results", (func(api.Types, []api.Rule, api.Control, string, api.Host) (api.Results, api.Errno))(interpreter.Results)},
	{"interpreter.Witness", (func(api.Types, []api.Rule, api.Control, string, api.Host, api.Host) ([]int, api.Errno))(interpreter.Witness)},
	{"interpreter.Always", (func(api.Types, []api.Rule, api.Control, string, api.Host) (bool, api.Errno))(interpreter.Always)},

	// transaction
	{"transaction.New", (func(api.Types, api.Host) (api.Session, api.Errno))(transaction.New)},
	{"transaction.Valid", (func(api.Types, []api.Rule, api.Session) api.Errno)(transaction.Valid)},
	{"transaction.Do", (func(api.Types, []api.Rule, api.Session, api.Move) (api.Session, api.Errno))(transaction.Do)},
	{"transaction.Begin", (func(api.Session) (api.Session, api.Errno))(transaction.Begin)},
	{"transaction.Commit", (func(api.Session) (api.Session, api.Errno))(transaction.Commit)},
	{"transaction.Rollback", (func(api.Types, []api.Rule, api.Session) (api.Session, api.Errno))(transaction.Rollback)},
	{"transaction.Run", (func(api.Types, []api.Rule, api.Session, []api.Action) (api.Session, int, api.Errno))(transaction.Run)},

	// statespace
	{"statespace.Explore", (func(api.Types, []api.Rule, api.Host, int) (api.Space, bool, api.Errno))(statespace.Explore)},
	{"statespace.Check", (func(api.Types, []api.Rule, api.Space, bool) bool)(statespace.Check)},
	{"statespace.Path", (func(api.Types, []api.Rule, api.Space, int) (api.Derivation, api.Errno))(statespace.Path)},
	{"statespace.Ends", (func(api.Space) ([]int, api.Errno))(statespace.Ends)},
	{"statespace.Components", (func(api.Space) ([]int, api.Errno))(statespace.Components)},

	// temporal
	{"temporal.Valid", (func(api.Formula, []api.Constraint) api.Errno)(temporal.Valid)},
	{"temporal.Holds", (func(api.Types, api.Space, api.Formula, []api.Constraint) ([]bool, api.Errno))(temporal.Holds)},
	{"temporal.Trace", (func(api.Types, api.Space, api.Formula, []api.Constraint) ([]int, bool, api.Errno))(temporal.Trace)},
	{"temporal.CheckTrace", (func(api.Types, api.Space, api.Formula, []api.Constraint, []int, bool) bool)(temporal.CheckTrace)},
	{"temporal.Rank", (func(api.Types, api.Space, api.Formula, []api.Constraint) ([]int, api.Errno))(temporal.Rank)},
	{"temporal.Format", (func(api.Formula) (string, api.Errno))(temporal.Format)},
	{"temporal.Parse", (func(string) (api.Formula, int, api.Errno))(temporal.Parse)},

	// unfolding
	{"unfolding.Unfold", (func(api.Types, []api.Rule, api.Graph, int) (api.Unfolding, api.Errno))(unfolding.Unfold)},
	{"unfolding.Check", (func(api.Types, []api.Rule, api.Unfolding) bool)(unfolding.Check)},
	{"unfolding.Causes", (func(api.Unfolding) ([][]int, api.Errno))(unfolding.Causes)},
	{"unfolding.Relations", (func(api.Types, []api.Rule, api.Unfolding) ([][]int, api.Errno))(unfolding.Relations)},
	{"unfolding.Configuration", (func(api.Types, []api.Rule, api.Unfolding, []int) (api.Graph, api.Derivation, api.Errno))(unfolding.Configuration)},

	// triple
	{"triple.Valid", (func(api.Types, api.Sorts, api.Host) api.Errno)(triple.Valid)},
	{"triple.Side", (func(api.Types, api.Sorts, api.Host, int) (api.Host, api.Part, api.Errno))(triple.Side)},
	{"triple.Pair", (func(api.Types, api.Sorts, api.Host, api.Host) (api.Host, api.Errno))(triple.Pair)},
	{"triple.Links", (func(api.Types, api.Sorts, api.Host) ([]api.Pair, api.Errno))(triple.Links)},
	{"triple.Swap", (func(api.Types, api.Sorts) (api.Sorts, api.Errno))(triple.Swap)},

	// triplerule
	{"triplerule.Valid", (func(api.Types, api.Sorts, api.Rule) api.Errno)(triplerule.Valid)},
	{"triplerule.Source", (func(api.Types, api.Sorts, api.Rule) (api.Rule, api.Errno))(triplerule.Source)},
	{"triplerule.Target", (func(api.Types, api.Sorts, api.Rule) (api.Rule, api.Errno))(triplerule.Target)},
	{"triplerule.Forward", (func(api.Types, api.Sorts, api.Rule) (api.Rule, api.Part, api.Errno))(triplerule.Forward)},
	{"triplerule.Backward", (func(api.Types, api.Sorts, api.Rule) (api.Rule, api.Part, api.Errno))(triplerule.Backward)},
	{"triplerule.Consistency", (func(api.Types, api.Sorts, api.Rule) (api.Rule, api.Part, api.Errno))(triplerule.Consistency)},
	{"triplerule.Split", (func(api.Types, api.Sorts, api.Step) (api.Step, api.Step, api.Errno))(triplerule.Split)},

	// translate
	{"translate.Forward", (func(api.Types, api.Sorts, []api.Rule, api.Host) (api.Translation, api.Errno))(translate.Forward)},
	{"translate.Backward", (func(api.Types, api.Sorts, []api.Rule, api.Host) (api.Translation, api.Errno))(translate.Backward)},
	{"translate.Generates", (func(api.Types, api.Sorts, []api.Rule, api.Host) (api.Translation, api.Errno))(translate.Generates)},
	{"translate.Check", (func(api.Types, api.Sorts, []api.Rule, api.Translation) bool)(translate.Check)},
	{"translate.Build", (func(api.Types, api.Sorts, []api.Rule, []api.Move) (api.Host, api.Errno))(translate.Build)},

	// synchronise
	{"synchronise.Source", (func(api.Types, api.Sorts, []api.Rule, api.Translation, []api.Edit) (api.Translation, api.Errno))(synchronise.Source)},
	{"synchronise.Target", (func(api.Types, api.Sorts, []api.Rule, api.Translation, []api.Edit) (api.Translation, api.Errno))(synchronise.Target)},
	{"synchronise.Remaining", (func(api.Types, api.Sorts, []api.Rule, api.Translation, []api.Edit, []api.Edit) ([]int, api.Errno))(synchronise.Remaining)},
	{"synchronise.Conflicts", (func(api.Types, api.Sorts, []api.Rule, api.Translation, []api.Edit, []api.Edit) ([]int, api.Errno))(synchronise.Conflicts)},
	{"synchronise.Both", (func(api.Types, api.Sorts, []api.Rule, api.Translation, []api.Edit, []api.Edit, int) (api.Translation, int, api.Errno))(synchronise.Both)},

	// version
	{"version.New", (func(api.Types, api.Host) (api.Tracked, api.Errno))(version.New)},
	{"version.Valid", (func(api.Types, api.Tracked) api.Errno)(version.Valid)},
	{"version.Diff", (func(api.Types, api.Tracked, api.Tracked) (api.Patch, api.Errno))(version.Diff)},
	{"version.Apply", (func(api.Types, api.Tracked, api.Patch) (api.Tracked, api.Errno))(version.Apply)},
	{"version.Inverse", (func(api.Types, api.Tracked, api.Patch) (api.Patch, api.Errno))(version.Inverse)},
	{"version.Compose", (func(api.Types, api.Tracked, api.Patch, api.Patch) (api.Patch, api.Errno))(version.Compose)},
	{"version.Step", (func(api.Types, api.Tracked, api.Step) (api.Tracked, api.Patch, api.Errno))(version.Step)},

	// merge
	{"merge.Conflicts", (func(api.Types, api.Tracked, api.Patch, api.Patch) ([]api.Collision, api.Errno))(merge.Conflicts)},
	{"merge.Merge", (func(api.Types, api.Tracked, api.Patch, api.Patch) (api.Tracked, api.Errno))(merge.Merge)},
	{"merge.Rebase", (func(api.Types, api.Tracked, api.Patch, api.Patch) (api.Patch, api.Errno))(merge.Rebase)},
	{"merge.Resolve", (func(api.Types, api.Tracked, api.Patch, api.Patch, []int) (api.Tracked, api.Errno))(merge.Resolve)},

	// store
	{"store.New", (func(api.Types, api.Host) (api.Store, api.Errno))(store.New)},
	{"store.Valid", (func(api.Types, api.Store) api.Errno)(store.Valid)},
	{"store.Commit", (func(api.Types, api.Store, string, api.Patch) (api.Store, int, api.Errno))(store.Commit)},
	{"store.Branch", (func(api.Types, api.Store, string, int) (api.Store, api.Errno))(store.Branch)},
	{"store.Checkout", (func(api.Types, api.Store, int) (api.Tracked, api.Errno))(store.Checkout)},
	{"store.Base", (func(api.Types, api.Store, int, int) (int, api.Errno))(store.Base)},
	{"store.Bytes", (func(api.Types, api.Store) (string, api.Errno))(store.Bytes)},
	{"store.Recover", (func(api.Types, string) (api.Store, int, api.Errno))(store.Recover)},

	// checker
	{"checker.Check", (func(api.Types, []api.Rule, api.Certificate) (bool, api.Errno))(checker.Check)},
	{"checker.Claim", (func(api.Types, []api.Rule, api.Certificate) (string, api.Errno))(checker.Claim)},
	{"checker.Encode", (func(api.Certificate) (string, api.Errno))(checker.Encode)},
	{"checker.Decode", (func(string) (api.Certificate, int, api.Errno))(checker.Decode)},
	{"checker.Collect", (func(api.Types, []api.Rule, api.Host, []api.Constraint) ([]api.Certificate, api.Errno))(checker.Collect)},

	// workbench
	{"workbench.New", (func() api.Console)(workbench.New)},
	{"workbench.Execute", (func(api.Console, string) (api.Console, []string))(workbench.Execute)},
	{"workbench.Run", (func(string) ([]string, api.Errno))(workbench.Run)},
	{"workbench.Commands", (func() []string)(workbench.Commands)},
}
