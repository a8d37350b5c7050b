package tests

import (
	"fmt"
	"slices"
	"sync"
	"testing"

	"loop.example/g00833/impl"
)

// cellsOfShape has the number of cells of a transmission for each kind and number of data bytes. It does not use the program.
var cellsOfShape = sync.OnceValue(func() map[shape]int64 {
	cells := map[shape]int64{}
	for _, x := range shapes() {
		cells[x] = cellsByReference(x.kind, x.size)
	}
	return cells
})

// cells returns the number of cells of the transmission in a slot.
func (y timedSlot) cells() int64 { return cellsOfShape()[shape{y.desc.Kind, y.desc.Size}] }

// end returns the start of the slot that follows.
func (y timedSlot) end() int64 { return y.start + y.desc.Duration }

// gaps returns what GapsOf returns of a node that is not passive: from each of its slots it goes on slot by slot, until the node
// sends again.
func (x timetable) gaps(mode int64, node int64) []int64 {
	var gaps []int64
	cycle := x.cycles[mode]
	for i, y := range cycle {
		if y.desc.Node != node {
			continue
		}
		gap, next := y.desc.Duration, (i+1)%len(cycle)
		for cycle[next].desc.Node != node {
			gap += cycle[next].desc.Duration
			next = (next + 1) % len(cycle)
		}
		gaps = append(gaps, gap)
	}
	return gaps
}

// payload returns what PayloadOf returns of a node that is not passive.
func (x timetable) payload(mode int64, node int64) int64 {
	var bytes int64
	for _, y := range x.cycles[mode] {
		if y.desc.Node == node {
			bytes += y.desc.Size
		}
	}
	return bytes
}

// use returns what UseOf returns.
func (x timetable) use(mode int64) int64 {
	thousandfold, use := int64(0), int64(0)
	for _, y := range x.cycles[mode] {
		thousandfold += 1000 * y.cells()
	}
	for (use+1)*x.cycleTime(mode) <= thousandfold {
		use++
	}
	return use
}

// pauses returns the pauses of all slots of a mode.
func (x timetable) pauses(mode int64) []int64 {
	var pauses []int64
	for _, y := range x.cycles[mode] {
		pauses = append(pauses, y.desc.Duration-y.cells())
	}
	return pauses
}

// threeCycles returns the slots of three cycles of a mode that follow one another.
func (x timetable) threeCycles(mode int64) []timedSlot {
	var slots []timedSlot
	for i := range int64(3) {
		for _, y := range x.cycles[mode] {
			y.start += i * x.cycleTime(mode)
			slots = append(slots, y)
		}
	}
	return slots
}

// pair is the node of an event and the node that answers.
type pair struct{ a, b int64 }

// chains has what ChainTime returns of all pairs of nodes that are not passive. For each integer time of a cycle and each node it
// goes from slot to slot until the node sends, and on until all nodes have answered.
func (x timetable) chains(mode int64) map[pair]int64 {
	var longest [32][32]int64
	slots := x.threeCycles(mode)
	for event := range x.cycleTime(mode) {
		for slots[0].start < event {
			slots = slots[1:]
		}
		for _, a := range x.active {
			i := 0
			for slots[i].desc.Node != a {
				i++
			}
			for b, time := range timesOfAnswers(slots[i:], len(x.active)) {
				longest[a][b] = max(longest[a][b], time-event)
			}
		}
	}
	chains := map[pair]int64{}
	for _, a := range x.active {
		for _, b := range x.active {
			chains[pair{a, b}] = longest[a][b]
		}
	}
	return chains
}

// timesOfAnswers returns for each of so many nodes when its answer to what is sent in the first of some slots has arrived, and 0
// for all other nodes.
func timesOfAnswers(slots []timedSlot, nodes int) [32]int64 {
	var times [32]int64
	for _, y := range slots {
		if y.start >= slots[0].end() && times[y.desc.Node] == 0 {
			times[y.desc.Node] = y.end()
			nodes--
		}
		if nodes == 0 {
			break
		}
	}
	return times
}

// handMode tells how long the slots of a round of a mode last, and who sends in them in each of its rounds.
type handMode struct {
	durations []int64
	rounds    [][]int64
}

// handMedl returns a schedule with these modes, in which short frames are sent, and with some passive nodes.
func handMedl(passive []int64, modes ...handMode) impl.Medl {
	m := impl.Medl{Id: 1}
	senders := map[int64]bool{}
	for mode, x := range modes {
		m.Modes = append(m.Modes, impl.ModeInfo{Rounds: int64(len(x.rounds)), Slots: int64(len(x.durations))})
		for round, nodes := range x.rounds {
			for slot, node := range nodes {
				senders[node] = true
				d := impl.Descriptor{Node: node, Kind: impl.FrameNormal, Duration: x.durations[slot]}
				m.Slots = append(m.Slots, impl.SlotInfo{Mode: int64(mode), Round: int64(round), Slot: int64(slot), Desc: d})
			}
		}
	}
	for node := range int64(32) {
		if senders[node] || slices.Contains(passive, node) {
			m.Nodes = append(m.Nodes, impl.NodeInfo{Id: node, Name: fmt.Sprint("n", node), Passive: !senders[node]})
		}
	}
	return m
}

// expectGaps fails the test if GapsOf does not return these gaps, or WorstGap and JitterOf do not return what follows from them.
// It is called so often that the call is named only in a failure, as are those below.
func expectGaps(t *testing.T, m impl.Medl, mode int64, node int64, want ...int64) {
	t.Helper()
	if got, code := impl.GapsOf(m, mode, node); !slices.Equal(got, want) || code != impl.ErrNone {
		t.Errorf("GapsOf %s %d %d: %v, code %d, want %v", nameOfMedl(m), mode, node, got, code, want)
	}
	if got, code := impl.WorstGap(m, mode, node); got != slices.Max(want) || code != impl.ErrNone {
		t.Errorf("WorstGap %s %d %d: %d, code %d, want the greatest of %v", nameOfMedl(m), mode, node, got, code, want)
	}
	if got, code := impl.JitterOf(m, mode, node); got != slices.Max(want)-slices.Min(want) || code != impl.ErrNone {
		t.Errorf("JitterOf %s %d %d: %d, code %d, want that of %v", nameOfMedl(m), mode, node, got, code, want)
	}
}

func expectPayload(t *testing.T, m impl.Medl, mode int64, node int64, want int64) {
	t.Helper()
	if got, code := impl.PayloadOf(m, mode, node); got != want || code != impl.ErrNone {
		t.Errorf("PayloadOf %s %d %d: %d, code %d, want %d", nameOfMedl(m), mode, node, got, code, want)
	}
}

func expectChain(t *testing.T, m impl.Medl, mode int64, a int64, b int64, want int64, wantCode int64) {
	t.Helper()
	if got, code := impl.ChainTime(m, mode, a, b); got != want || code != wantCode {
		t.Errorf("ChainTime %s %d %d %d: %d, code %d, want %d, code %d", nameOfMedl(m), mode, a, b, got, code, want, wantCode)
	}
}

func expectUse(t *testing.T, m impl.Medl, mode int64, want int64, wantCode int64) {
	t.Helper()
	if got, code := impl.UseOf(m, mode); got != want || code != wantCode {
		t.Errorf("UseOf %s %d: %d, code %d, want %d, code %d", nameOfMedl(m), mode, got, code, want, wantCode)
	}
}

func expectSlack(t *testing.T, m impl.Medl, mode int64, want int64, wantCode int64) {
	t.Helper()
	if got, code := impl.SlackOf(m, mode); got != want || code != wantCode {
		t.Errorf("SlackOf %s %d: %d, code %d, want %d, code %d", nameOfMedl(m), mode, got, code, want, wantCode)
	}
}

// expectNodeRefused fails the test if a function of a schedule, a mode and a node does not return an error and nothing else.
func expectNodeRefused(t *testing.T, m impl.Medl, mode int64, node int64, wantCode int64) {
	t.Helper()
	if got, code := impl.GapsOf(m, mode, node); len(got) > 0 || code != wantCode {
		t.Errorf("GapsOf %s %d %d: %v, code %d, want code %d", nameOfMedl(m), mode, node, got, code, wantCode)
	}
	for name, call := range map[string]func(m impl.Medl, mode int64, node int64) (int64, int64){"WorstGap": impl.WorstGap, "JitterOf": impl.JitterOf, "PayloadOf": impl.PayloadOf} {
		if got, code := call(m, mode, node); got != 0 || code != wantCode {
			t.Errorf("%s %s %d %d: %d, code %d, want code %d", name, nameOfMedl(m), mode, node, got, code, wantCode)
		}
	}
	expectChain(t, m, mode, node, node, 0, wantCode)
}

// expectAnalysisRefused fails the test if a function of a schedule and a mode does not return an error and nothing else, whatever
// the nodes are.
func expectAnalysisRefused(t *testing.T, m impl.Medl, mode int64, wantCode int64) {
	t.Helper()
	expectUse(t, m, mode, 0, wantCode)
	expectSlack(t, m, mode, 0, wantCode)
	nodes := []int64{0, 1, 5, 31, 32, -1, least, greatest}
	for _, x := range m.Nodes[:min(len(m.Nodes), 4)] {
		nodes = append(nodes, x.Id)
	}
	for i, node := range nodes {
		expectNodeRefused(t, m, mode, node, wantCode)
		expectChain(t, m, mode, node, nodes[(i+1)%len(nodes)], 0, wantCode)
		expectChain(t, m, mode, nodes[0], node, 0, wantCode)
	}
}

// checkNodes compares all functions of a schedule, a mode and a node with the timetable.
func (x timetable) checkNodes(t *testing.T, mode int64) {
	t.Helper()
	for _, node := range x.m.Nodes {
		if node.Passive {
			expectNodeRefused(t, x.m, mode, node.Id, impl.ErrNotFound)
			continue
		}
		expectGaps(t, x.m, mode, node.Id, x.gaps(mode, node.Id)...)
		expectPayload(t, x.m, mode, node.Id, x.payload(mode, node.Id))
	}
}

// checkAnalysis compares all functions of the chapter with the timetable.
func (x timetable) checkAnalysis(t *testing.T) {
	t.Helper()
	for mode := range int64(len(x.cycles)) {
		x.checkNodes(t, mode)
		expectUse(t, x.m, mode, x.use(mode), impl.ErrNone)
		expectSlack(t, x.m, mode, slices.Min(x.pauses(mode)), impl.ErrNone)
		for y, time := range x.chains(mode) {
			expectChain(t, x.m, mode, y.a, y.b, time, impl.ErrNone)
		}
	}
}

// expectChains fails the test if ChainTime of a mode does not return these times, one row for each node of an event and one
// column for each node that answers, or if the reference does not.
func expectChains(t *testing.T, m impl.Medl, mode int64, rows ...[]int64) {
	t.Helper()
	x := timetableOf(m)
	search := x.chains(mode)
	for i, row := range rows {
		for k, want := range row {
			expectChain(t, m, mode, x.active[i], x.active[k], want, impl.ErrNone)
			if got := search[pair{x.active[i], x.active[k]}]; got != want {
				t.Errorf("the search found %d in %s for %d and %d, want %d", got, nameOfMedl(m), x.active[i], x.active[k], want)
			}
		}
	}
}

// The results have been written out by hand.
func TestKnownAnalyses(t *testing.T) {
	m := knownMedl()
	expectGaps(t, m, 0, 0, 400, 400)
	expectGaps(t, m, 0, 1, 400, 400)
	expectGaps(t, m, 1, 0, 450)
	expectGaps(t, m, 1, 1, 450)
	expectPayload(t, m, 0, 0, 4)
	expectPayload(t, m, 0, 1, 2)
	expectPayload(t, m, 1, 0, 0)
	expectPayload(t, m, 1, 1, 3)
	// 131, 131, 101 and 81 cells in 800, and 171 and 61 in 450.
	expectUse(t, m, 0, 555, impl.ErrNone)
	expectUse(t, m, 1, 515, impl.ErrNone)
	expectSlack(t, m, 0, 69, impl.ErrNone)
	expectSlack(t, m, 1, 89, impl.ErrNone)
	expectChains(t, m, 0, []int64{999, 799}, []int64{799, 999})
	expectChains(t, m, 1, []int64{1049, 899}, []int64{899, 1199})
}

// oneRoundMode has slots that start at 0, 100, 300, 600 and 750, and twoRoundMode some that start at 0, 100, 300, 450, 550 and
// 750.
func oneRoundMode() handMode {
	return handMode{durations: []int64{100, 200, 300, 150, 250}, rounds: [][]int64{{0, 1, 0, 2, 1}}}
}

func twoRoundMode() handMode {
	return handMode{durations: []int64{100, 200, 150}, rounds: [][]int64{{0, 1, 2}, {2, 0, 1}}}
}

// In the schedules of two modes each mode has its own times, whichever is the first one.
func TestKnownGapsAndChains(t *testing.T) {
	one, two := oneRoundMode(), twoRoundMode()
	for _, x := range []struct {
		m           impl.Medl
		first, mode int64
	}{
		{handMedl(nil, one), 0, 0}, {handMedl([]int64{3, 31}, one, two), 0, 1}, {handMedl([]int64{7}, two, one), 1, 0}, {handMedl(nil, two, two, one), 2, 1},
	} {
		expectFault(t, x.m, 0)
		expectGaps(t, x.m, x.first, 0, 300, 700)
		expectGaps(t, x.m, x.first, 1, 650, 350)
		expectGaps(t, x.m, x.first, 2, 1000)
		expectChains(t, x.m, x.first, []int64{1299, 999, 1449}, []int64{999, 1249, 1649}, []int64{1499, 1399, 2149})
		if len(x.m.Modes) == 1 {
			continue
		}
		expectGaps(t, x.m, x.mode, 0, 550, 350)
		expectGaps(t, x.m, x.mode, 1, 650, 250)
		expectGaps(t, x.m, x.mode, 2, 150, 750)
		expectChains(t, x.m, x.mode, []int64{1099, 899, 1349}, []int64{899, 1099, 1249}, []int64{1199, 1349, 1049})
	}
}

// The only slot of a cycle is followed by itself: the event comes just after its start, the node sends in the next cycle, and
// answers itself in the one after.
func TestAnalysesOfOneSlot(t *testing.T) {
	for duration := int64(81); duration <= 1000; duration++ {
		m := handMedl([]int64{30}, handMode{durations: []int64{duration}, rounds: [][]int64{{31}}})
		expectGaps(t, m, 0, 31, duration)
		expectChain(t, m, 0, 31, 31, 3*duration-1, impl.ErrNone)
		expectUse(t, m, 0, 61000/duration, impl.ErrNone)
		expectSlack(t, m, 0, duration-61, impl.ErrNone)
		expectPayload(t, m, 0, 31, 0)
		expectNodeRefused(t, m, 0, 30, impl.ErrNotFound)
	}
	twice := handMedl(nil, handMode{durations: []int64{500}, rounds: [][]int64{{4}, {4}}}, handMode{durations: []int64{81, 1000}, rounds: [][]int64{{4, 4}}})
	expectGaps(t, twice, 0, 4, 500, 500)
	expectChain(t, twice, 0, 4, 4, 1499, impl.ErrNone)
	expectGaps(t, twice, 1, 4, 81, 1000)
	// An event just after 81 is answered from 1162 on, and one just after 0 from 1081 on.
	expectChain(t, twice, 1, 4, 4, 2080, impl.ErrNone)
}

// In a round of three slots with these Durations the second node starts to answer just when the first one has sent, the first one
// has just begun to send when the event comes, and the node whose slot ends where the first one's starts answers a cycle later.
func TestChainTimeAroundTheEndOfASlot(t *testing.T) {
	durations := []int64{81, 82, 83, 100, 256, 500, 999, 1000}
	for _, d0 := range durations {
		for _, d1 := range durations {
			for i, d2 := range durations {
				m := handMedl(nil, handMode{durations: []int64{d0, d1, d2}, rounds: [][]int64{{9, 3, 6}}})
				all := d0 + d1 + d2
				for _, x := range []struct{ a, b, want int64 }{
					{9, 9, 2*all + d0 - 1}, {9, 3, all + d0 + d1 - 1}, {9, 6, 2*all - 1},
					{3, 9, 2*all - 1}, {3, 3, 2*all + d1 - 1}, {3, 6, all + d1 + d2 - 1},
					{6, 9, all + d2 + d0 - 1}, {6, 3, 2*all - 1}, {6, 6, 2*all + d2 - 1},
				} {
					expectChain(t, m, 0, x.a, x.b, x.want, impl.ErrNone)
				}
				if i == 0 {
					timetableOf(m).checkAnalysis(t)
				}
			}
		}
	}
}

// With two nodes and all orders of some slots, the slots of one node follow one another or stand apart, also across the end of
// the cycle.
func TestAnalysesOfAllOrders(t *testing.T) {
	met := 0
	for slots := 2; slots <= 6; slots++ {
		durations := []int64{95, 81, 130, 120, 87, 101}[:slots]
		for order := 1; order < 1<<slots-1; order++ {
			nodes := make([]int64, slots)
			for i := range nodes {
				nodes[i] = int64(order >> i & 1)
			}
			timetableOf(handMedl(nil, handMode{durations: durations, rounds: [][]int64{nodes}})).checkAnalysis(t)
			met++
			if slots <= 4 {
				other := slices.Clone(nodes)
				slices.Reverse(other)
				timetableOf(handMedl(nil, handMode{durations: durations, rounds: [][]int64{nodes, other}})).checkAnalysis(t)
			}
		}
	}
	if met != 2+6+14+30+62 {
		t.Errorf("there are %d orders", met)
	}
}

// countGaps counts of what kinds a node of a mode is.
func (x timetable) countGaps(mode int64, node int64, kinds map[string]int) {
	gaps, rounds := x.gaps(mode, node), x.m.Modes[mode].Rounds
	var durations []int64
	perRound := map[int64]int{}
	for _, y := range x.cycles[mode] {
		if y.desc.Node == node {
			durations = append(durations, y.desc.Duration)
			perRound[y.round]++
		}
	}
	oftenInARound := false
	for _, count := range perRound {
		oftenInARound = oftenInARound || count > 1
	}
	last := gaps[len(gaps)-1]
	for kind, is := range map[string]bool{
		"1 round": rounds == 1, "2 rounds": rounds == 2, "4 rounds": rounds == 4, "8 rounds": rounds == 8,
		"one mode": len(x.m.Modes) == 1, "several modes": len(x.m.Modes) > 1, "not the first mode": mode > 0,
		"one node": len(x.active) == 1, "several nodes": len(x.active) > 1, "passive nodes": len(x.active) < len(x.m.Nodes),
		"one slot": len(gaps) == 1, "slots of different rounds": rounds > 1, "several slots in a round": oftenInARound,
		"unequal Durations": slices.Min(durations) < slices.Max(durations), "equal gaps": len(gaps) > 1 && slices.Min(gaps) == slices.Max(gaps),
		"worst gap across the end": len(gaps) > 1 && last > slices.Max(gaps[:len(gaps)-1]), "least gap across the end": len(gaps) > 1 && last < slices.Min(gaps[:len(gaps)-1]),
		"worst gap first": len(gaps) > 1 && gaps[0] > slices.Max(gaps[1:]), "least gap first": len(gaps) > 1 && gaps[0] < slices.Min(gaps[1:]),
		"first slot": x.cycles[mode][0].desc.Node == node, "last slot": x.cycles[mode][len(x.cycles[mode])-1].desc.Node == node,
	} {
		if is {
			kinds[kind]++
		}
	}
}

// expectKinds fails the test if something of some kind has not been met often.
func expectOften(t *testing.T, kinds map[string]int, names ...string) {
	t.Helper()
	for _, kind := range names {
		if kinds[kind] < 100 {
			t.Errorf("%d have the kind %s", kinds[kind], kind)
		}
	}
}

// checkGapsAddUp compares what promise 14 says of the gaps of a node with CycleTime, SendTimes, WorstGap and JitterOf.
func (x timetable) checkGapsAddUp(t *testing.T, mode int64, node int64) {
	t.Helper()
	gaps, code := impl.GapsOf(x.m, mode, node)
	times, other := impl.SendTimes(x.m, mode, node)
	if code != impl.ErrNone || other != impl.ErrNone || len(gaps) != len(times) || len(gaps) == 0 {
		t.Fatalf("%s: the gaps of %d in %d are %v, code %d, and its starts %v, code %d", nameOfMedl(x.m), node, mode, gaps, code, times, other)
	}
	var sum int64
	worst, least := gaps[0], gaps[0]
	for i, gap := range gaps {
		sum += gap
		worst, least = max(worst, gap), min(least, gap)
		if i+1 < len(times) && times[i]+gap != times[i+1] {
			t.Errorf("%s: the gap %d of %d in %d is %d, and its starts are %v", nameOfMedl(x.m), i, node, mode, gap, times)
		}
	}
	time, _ := impl.CycleTime(x.m, mode)
	expectNumber(t, "the sum of gaps", sum, 0, time, 0)
	expectNumber(t, "the sum of gaps", sum, 0, x.cycleTime(mode), 0)
	got, code := impl.WorstGap(x.m, mode, node)
	expectNumber(t, "WorstGap", got, code, worst, impl.ErrNone)
	got, code = impl.JitterOf(x.m, mode, node)
	expectNumber(t, "JitterOf", got, code, worst-least, impl.ErrNone)
	count := 0
	for _, y := range x.cycles[mode] {
		if y.desc.Node == node {
			count++
		}
	}
	expectNumber(t, "the number of gaps", int64(len(gaps)), 0, int64(count), 0)
	expectGaps(t, x.m, mode, node, x.gaps(mode, node)...)
}

// Promise 14: gaps add up to the cycle time.
func TestGapsAddUpToTheCycleTime(t *testing.T) {
	kinds := map[string]int{}
	for _, x := range manyTimetables() {
		for mode := range int64(len(x.cycles)) {
			for _, node := range x.active {
				x.checkGapsAddUp(t, mode, node)
				x.countGaps(mode, node, kinds)
			}
		}
	}
	expectOften(t, kinds, "1 round", "2 rounds", "4 rounds", "8 rounds", "one mode", "several modes", "not the first mode", "one node", "several nodes", "passive nodes",
		"one slot", "slots of different rounds", "several slots in a round", "unequal Durations", "equal gaps",
		"worst gap across the end", "least gap across the end", "worst gap first", "least gap first", "first slot", "last slot")
}

// countChain counts of what kinds two nodes of a mode are.
func (x timetable) countChain(mode int64, y pair, time int64, kinds map[string]int) {
	cycle, worst := x.cycles[mode], slices.Max(x.gaps(mode, y.a))
	follows, precedes, acrossTheEnd := false, false, false
	for i, z := range cycle {
		next := cycle[(i+1)%len(cycle)]
		follows = follows || z.desc.Node == y.a && next.desc.Node == y.b
		precedes = precedes || z.desc.Node == y.b && next.desc.Node == y.a
		acrossTheEnd = acrossTheEnd || i == len(cycle)-1 && z.desc.Node == y.a && next.desc.Node == y.b
	}
	whole := x.cycleTime(mode)
	for kind, is := range map[string]bool{
		"the same node": y.a == y.b, "two nodes": y.a != y.b, "one mode": len(x.m.Modes) == 1, "several modes": len(x.m.Modes) > 1,
		"one round": x.m.Modes[mode].Rounds == 1, "several rounds": x.m.Modes[mode].Rounds > 1,
		"a slot that starts at the end": follows, "no slot that starts at the end": !follows, "a slot that ends at the start": precedes, "none that ends at the start": !precedes,
		"a slot that starts at the end of the cycle": acrossTheEnd, "one slot each": len(x.gaps(mode, y.a)) == 1 && len(x.gaps(mode, y.b)) == 1,
		"shorter than a cycle": time < whole, "longer than a cycle": time > whole, "longer than two cycles": time > 2*whole, "little more than the worst gap": time < worst+300,
	} {
		if is {
			kinds[kind]++
		}
	}
}

// Promise 14: the chain time is greater than the worst gap of the first node. It is the greatest difference that the search finds.
func TestChainTimeIsGreaterThanTheWorstGap(t *testing.T) {
	kinds := map[string]int{}
	for _, x := range manyTimetables() {
		for mode := range int64(len(x.cycles)) {
			for y, want := range x.chains(mode) {
				time, code := impl.ChainTime(x.m, mode, y.a, y.b)
				worst, other := impl.WorstGap(x.m, mode, y.a)
				if code != impl.ErrNone || other != impl.ErrNone || time <= worst || worst == 0 {
					t.Errorf("%s: ChainTime %d %d %d is %d, code %d, and the worst gap %d, code %d", nameOfMedl(x.m), mode, y.a, y.b, time, code, worst, other)
				}
				expectChain(t, x.m, mode, y.a, y.b, want, impl.ErrNone)
				x.countChain(mode, y, time, kinds)
			}
		}
	}
	expectOften(t, kinds, "the same node", "two nodes", "one mode", "several modes", "one round", "several rounds", "a slot that starts at the end", "no slot that starts at the end",
		"a slot that ends at the start", "none that ends at the start", "a slot that starts at the end of the cycle", "one slot each",
		"shorter than a cycle", "longer than a cycle", "longer than two cycles", "little more than the worst gap")
}

// An event just after a start of a node's slot, which is answered late, is found wherever that slot stands: the schedule is turned
// slot by slot, which changes neither the gaps, but for their order, nor the chain times.
func TestAnalysesOfTurnedSchedules(t *testing.T) {
	durations, nodes := []int64{81, 300, 120, 90, 500, 101, 250, 84}, []int64{2, 0, 1, 1, 0, 2, 1, 0}
	m := handMedl(nil, handMode{durations: durations, rounds: [][]int64{nodes}})
	timetableOf(m).checkAnalysis(t)
	for range nodes {
		durations, nodes = append(durations[1:], durations[0]), append(nodes[1:], nodes[0])
		other := handMedl(nil, handMode{durations: durations, rounds: [][]int64{nodes}})
		for a := range int64(3) {
			one, _ := impl.GapsOf(m, 0, a)
			two, _ := impl.GapsOf(other, 0, a)
			slices.Sort(one)
			slices.Sort(two)
			expectList(t, "gaps", two, 0, one, 0)
			for b := range int64(3) {
				want, code := impl.ChainTime(m, 0, a, b)
				expectChain(t, other, 0, a, b, want, code)
			}
		}
	}
}

// All nodes send all data of a cycle together.
func TestPayloadOfManySchedules(t *testing.T) {
	kinds := map[string]int{}
	for _, x := range manyTimetables() {
		for mode, cycle := range x.cycles {
			var want, sum int64
			for _, y := range cycle {
				want += y.desc.Size
				kinds[fmt.Sprint("kind ", y.desc.Kind)]++
			}
			for _, node := range x.active {
				got, code := impl.PayloadOf(x.m, int64(mode), node)
				expectNumber(t, "PayloadOf", got, code, x.payload(int64(mode), node), impl.ErrNone)
				sum += got
				if got == 0 {
					kinds["no data"]++
				}
			}
			expectNumber(t, "the data of all nodes", sum, 0, want, 0)
		}
	}
	expectOften(t, kinds, "kind 0", "kind 1", "kind 2", "kind 3", "no data")
}

// One slot of each kind with each number of data bytes, and with each Duration: the data and the cells of all kinds count alike,
// and the use is rounded down.
func TestPayloadUseAndSlackOfOneSlot(t *testing.T) {
	exact, rounded, smallest := 0, 0, 0
	for _, x := range shapes() {
		cells := cellsOfShape()[x]
		for duration := leastDuration(x); duration <= 1000; duration++ {
			m := impl.Medl{Id: 1, Nodes: []impl.NodeInfo{{Id: 5, Name: "a"}}, Modes: []impl.ModeInfo{{Rounds: 1, Slots: 1}}}
			m.Slots = []impl.SlotInfo{{Desc: impl.Descriptor{Node: 5, Kind: x.kind, Size: x.size, Duration: duration}}}
			expectPayload(t, m, 0, 5, x.size)
			expectUse(t, m, 0, 1000*cells/duration, impl.ErrNone)
			expectSlack(t, m, 0, duration-cells, impl.ErrNone)
			switch {
			case duration-cells == 20:
				smallest++
			case 1000*cells%duration == 0:
				exact++
			default:
				rounded++
			}
		}
	}
	if exact < 100 || rounded < 10000 || smallest != 67 {
		t.Errorf("the use is %d times exact and %d times rounded, and the slack %d times the least one", exact, rounded, smallest)
	}
}

// withShapes returns a schedule of one node and a round of slots of these shapes and Durations.
func withShapes(durations []int64, list ...shape) impl.Medl {
	m := handMedl(nil, handMode{durations: durations, rounds: [][]int64{repeated(2, len(durations))}})
	for i, x := range list {
		m.Slots[i].Desc.Kind, m.Slots[i].Desc.Size = x.kind, x.size
	}
	return m
}

// The results have been written out by hand. A normal frame of n data bytes has 61 + 10n cells, one with a state and data
// 141 + 10n, and one with a state alone 131.
func TestKnownPayloadUseAndSlack(t *testing.T) {
	normal := func(size int64) shape { return shape{impl.FrameNormal, size} }
	data := func(size int64) shape { return shape{impl.FrameData, size} }
	state, cold := shape{impl.FrameInit, 0}, shape{impl.FrameCold, 0}
	for _, x := range []struct {
		durations           []int64
		list                []shape
		payload, use, slack int64
	}{
		{[]int64{122}, []shape{normal(0)}, 0, 500, 61},
		{[]int64{121}, []shape{normal(0)}, 0, 504, 60},
		{[]int64{123}, []shape{normal(0)}, 0, 495, 62},
		{[]int64{401}, []shape{normal(32)}, 32, 950, 20},
		{[]int64{481}, []shape{data(32)}, 32, 958, 20},
		{[]int64{1000}, []shape{normal(0)}, 0, 61, 939},
		{[]int64{1000}, []shape{data(32)}, 32, 461, 539},
		{[]int64{151}, []shape{state}, 0, 867, 20},
		{[]int64{152}, []shape{cold}, 0, 861, 21},
		{[]int64{171}, []shape{data(1)}, 1, 883, 20},
		{[]int64{200, 200, 200, 200}, []shape{cold, state, normal(5), data(3)}, 8, 680, 29},
		{[]int64{91, 200, 151, 300}, []shape{normal(1), normal(3), state, data(13)}, 17, 760, 20},
		// 71 and 131 cells in 300 are 673 and a third, though the parts of both alone are rounded down to 236 and 436.
		{[]int64{100, 200}, []shape{normal(1), cold}, 1, 673, 29},
		// 122 cells in 183 are 666 and two thirds, and in 1122 a little less than 109.
		{[]int64{92, 91}, []shape{normal(0), normal(0)}, 0, 666, 30},
		{[]int64{122, 1000}, []shape{normal(0), normal(0)}, 0, 108, 61},
	} {
		m := withShapes(x.durations, x.list...)
		expectFault(t, m, 0)
		expectPayload(t, m, 0, 2, x.payload)
		expectUse(t, m, 0, x.use, impl.ErrNone)
		expectSlack(t, m, 0, x.slack, impl.ErrNone)
	}
}

// Use and slack of many schedules are those of the reference.
func TestUseAndSlackOfManySchedules(t *testing.T) {
	kinds := map[string]int{}
	for _, x := range manyTimetables() {
		for mode, cycle := range x.cycles {
			pauses := x.pauses(int64(mode))
			use, slack := x.use(int64(mode)), slices.Min(pauses)
			expectUse(t, x.m, int64(mode), use, impl.ErrNone)
			expectSlack(t, x.m, int64(mode), slack, impl.ErrNone)
			var cells int64
			for _, y := range cycle {
				cells += y.cells()
			}
			for kind, is := range map[string]bool{
				"remainder": 1000*cells%x.cycleTime(int64(mode)) > 0, "the least slack": slack == 20, "more slack": slack > 20,
				"slack in the first slot": pauses[0] == slack, "slack in the last slot": pauses[len(pauses)-1] == slack, "slack between": pauses[0] > slack && pauses[len(pauses)-1] > slack,
				"high use": use > 700, "low use": use < 300,
			} {
				if is {
					kinds[kind]++
				}
			}
		}
	}
	expectOften(t, kinds, "remainder", "the least slack", "more slack", "slack in the first slot", "slack in the last slot", "slack between", "high use", "low use")
}

// The least pause is found in each slot of each mode, and is not that of another mode. It is at least 20 in each schedule: one
// with a shorter pause is not well-formed.
func TestSlackInEachSlot(t *testing.T) {
	m := handMedl([]int64{4}, handMode{repeated(201, 5), [][]int64{{0, 1, 0, 0, 1}, {1, 1, 0, 0, 1}}}, handMode{repeated(300, 3), [][]int64{{1, 0, 0}}}, handMode{repeated(205, 4), [][]int64{{1, 1, 1, 0}, {0, 0, 0, 1}}})
	slacks := []int64{140, 239, 144}
	for i, entry := range m.Slots {
		for size := int64(0); size <= 13; size++ {
			other := changed(m, func(m *impl.Medl) { m.Slots[i].Desc.Size = size })
			if size == 13 && entry.Mode != 1 {
				expectAnalysisRefused(t, other, entry.Mode, impl.ErrInvalid)
				continue
			}
			for mode, slack := range slacks {
				want := slack
				if int64(mode) == entry.Mode {
					want -= 10 * size
				}
				expectSlack(t, other, int64(mode), want, impl.ErrNone)
			}
		}
	}
}

// The longest cycle of the most slots, in which one node sends or several.
func TestAnalysesOfTheLongestCycles(t *testing.T) {
	for i, m := range longestMedls() {
		x := timetableOf(m)
		longest := 0
		for mode := range int64(len(x.cycles)) {
			if x.cycleTime(mode) == 32000 {
				longest++
				x.checkNodes(t, mode)
			}
		}
		if longest == 0 {
			t.Errorf("the schedule %d has no longest cycle", i)
		}
	}
	m := handMedl(nil, handMode{repeated(1000, 16), [][]int64{{0, 1, 1, 1, 1, 1, 1, 1, 1, 1, 1, 1, 1, 1, 1, 1}, {1, 1, 1, 1, 1, 1, 1, 1, 1, 1, 1, 1, 1, 1, 1, 0}}})
	expectFault(t, m, 0)
	expectGaps(t, m, 0, 0, 31000, 1000)
	// An event just after the start at 0 waits until 31000, and the node answers itself at the end of that slot. An event just after
	// the last start of the node 1 waits until its first one in the next cycle.
	expectChain(t, m, 0, 0, 0, 32999, impl.ErrNone)
	expectChain(t, m, 0, 0, 1, 33999, impl.ErrNone)
	expectChain(t, m, 0, 1, 0, 33999, impl.ErrNone)
}

// othersOf returns numbers that are no nodes of a schedule.
func (x timetable) othersOf() []int64 {
	others := notNodes()
	for node := range int64(32) {
		if !slices.ContainsFunc(x.m.Nodes, func(y impl.NodeInfo) bool { return y.Id == node }) {
			others = append(others, node)
		}
	}
	return others
}

// passives returns the passive nodes of a schedule.
func (x timetable) passives() []int64 {
	var nodes []int64
	for _, y := range x.m.Nodes {
		if y.Passive {
			nodes = append(nodes, y.Id)
		}
	}
	return nodes
}

// Numbers that are no nodes of a schedule are ErrRange, and passive nodes ErrNotFound. In ChainTime it is ErrRange if either is
// no node, in whichever order.
func TestAnalysesOfOtherNodes(t *testing.T) {
	met := 0
	for i, x := range someTimetables() {
		passives, others := x.passives(), x.othersOf()
		for mode := range int64(len(x.m.Modes)) {
			for k, node := range others {
				if mode > 0 && k%7 > 0 {
					continue
				}
				expectNodeRefused(t, x.m, mode, node, impl.ErrRange)
				for _, second := range []int64{x.active[k%len(x.active)], others[(k+i+1)%len(others)]} {
					expectChain(t, x.m, mode, node, second, 0, impl.ErrRange)
					expectChain(t, x.m, mode, second, node, 0, impl.ErrRange)
				}
				if len(passives) > 0 {
					expectChain(t, x.m, mode, node, passives[k%len(passives)], 0, impl.ErrRange)
					expectChain(t, x.m, mode, passives[k%len(passives)], node, 0, impl.ErrRange)
					met++
				}
			}
			for k, node := range passives {
				expectNodeRefused(t, x.m, mode, node, impl.ErrNotFound)
				for _, second := range []int64{x.active[0], x.active[k%len(x.active)], passives[(k+1)%len(passives)]} {
					expectChain(t, x.m, mode, node, second, 0, impl.ErrNotFound)
					expectChain(t, x.m, mode, second, node, 0, impl.ErrNotFound)
				}
			}
		}
	}
	if met < 1000 {
		t.Errorf("%d pairs have a node that is none and one that is passive", met)
	}
}

// Numbers that are no modes of a schedule are ErrRange, whatever the nodes are.
func TestAnalysesOfOtherModes(t *testing.T) {
	for _, x := range someTimetables() {
		for i, mode := range notModes(len(x.m.Modes)) {
			expectAnalysisRefused(t, x.m, mode, impl.ErrRange)
			for _, node := range x.passives() {
				expectNodeRefused(t, x.m, mode, node, impl.ErrRange)
				expectChain(t, x.m, mode, node, x.active[0], 0, impl.ErrRange)
			}
			expectChain(t, x.m, mode, x.active[i%len(x.active)], x.othersOf()[i], 0, impl.ErrRange)
		}
		last := int64(len(x.m.Modes)) - 1
		expectUse(t, x.m, last, x.use(last), impl.ErrNone)
	}
}

// The errors come in their order: a schedule that is not well-formed before a mode or a node that is none of it, and this before
// a node that is passive.
func TestAnalysisErrors(t *testing.T) {
	m := changed(knownMedl(), func(m *impl.Medl) {
		m.Nodes = append(m.Nodes, impl.NodeInfo{Id: 4, Name: "c", Passive: true}, impl.NodeInfo{Id: 6, Name: "d", Passive: true})
	})
	broken := withMedlId(m, 0)
	for _, x := range []struct {
		m                impl.Medl
		mode, a, b, code int64
	}{
		{m, 0, 0, 4, impl.ErrNotFound}, {m, 0, 4, 0, impl.ErrNotFound}, {m, 1, 4, 6, impl.ErrNotFound}, {m, 1, 6, 6, impl.ErrNotFound},
		{m, 0, 4, 5, impl.ErrRange}, {m, 0, 5, 4, impl.ErrRange}, {m, 0, 4, -1, impl.ErrRange}, {m, 0, greatest, 4, impl.ErrRange}, {m, 1, 5, 0, impl.ErrRange}, {m, 1, 0, 5, impl.ErrRange}, {m, 1, 5, 5, impl.ErrRange},
		{m, 2, 0, 1, impl.ErrRange}, {m, 2, 4, 1, impl.ErrRange}, {m, -1, 0, 4, impl.ErrRange}, {m, least, 4, 6, impl.ErrRange}, {m, greatest, 5, 4, impl.ErrRange}, {m, 2, 5, 5, impl.ErrRange},
		{broken, 0, 0, 1, impl.ErrInvalid}, {broken, 0, 4, 6, impl.ErrInvalid}, {broken, 0, 5, 4, impl.ErrInvalid}, {broken, 2, 0, 1, impl.ErrInvalid}, {broken, -1, 4, 5, impl.ErrInvalid}, {broken, 2, 5, 5, impl.ErrInvalid},
	} {
		expectChain(t, x.m, x.mode, x.a, x.b, 0, x.code)
		if x.a == x.b {
			expectNodeRefused(t, x.m, x.mode, x.a, x.code)
		}
	}
	expectNodeRefused(t, m, 0, 4, impl.ErrNotFound)
	expectNodeRefused(t, m, 2, 4, impl.ErrRange)
	expectNodeRefused(t, m, 2, 0, impl.ErrRange)
	expectNodeRefused(t, m, 0, 5, impl.ErrRange)
	expectNodeRefused(t, broken, 0, 4, impl.ErrInvalid)
	expectNodeRefused(t, broken, 2, 5, impl.ErrInvalid)
	expectUse(t, m, 2, 0, impl.ErrRange)
	expectSlack(t, m, -1, 0, impl.ErrRange)
	expectUse(t, broken, 2, 0, impl.ErrInvalid)
	expectSlack(t, broken, -1, 0, impl.ErrInvalid)
}

// expectAnalysisErrInvalid fails the test if a function does not say first that a schedule is not well-formed, whatever else it is
// called with.
func expectAnalysisErrInvalid(t *testing.T, m impl.Medl) {
	t.Helper()
	for _, mode := range []int64{0, 1, -1, 16, least, greatest} {
		expectAnalysisRefused(t, m, mode, impl.ErrInvalid)
	}
}

// Schedules that break one rule or some, and those with tables that are none.
func TestAnalysesOfBrokenSchedules(t *testing.T) {
	for _, m := range brokenMedls() {
		expectAnalysisErrInvalid(t, m)
	}
	for i, m := range medlsWithWrongTables() {
		expectAnalysisRefused(t, m, int64(i%3)-1, impl.ErrInvalid)
	}
}

// Each rule is broken as little as a test of chapter 13 breaks it, in schedules of all kinds.
func TestAnalysesOfSchedulesWithSmallChanges(t *testing.T) {
	broken, whole := 0, 0
	for seed, x := range someTimetables() {
		numbers := mixed(4096, 1<<30, uint64(seed)+9020)
		next := 0
		draw := func(limit int) int {
			next++
			return int(numbers[next%len(numbers)]) % limit
		}
		for _, change := range smallChanges(draw) {
			m := changed(x.m, change)
			if firstByReference(m) != 0 {
				expectAnalysisErrInvalid(t, m)
				broken++
				continue
			}
			y := timetableOf(m)
			for mode := range int64(len(y.cycles)) {
				y.checkNodes(t, mode)
				expectUse(t, m, mode, y.use(mode), impl.ErrNone)
				expectSlack(t, m, mode, slices.Min(y.pauses(mode)), impl.ErrNone)
			}
			whole++
		}
	}
	if broken < 100 || whole < 100 {
		t.Errorf("%d schedules are broken, and %d are not", broken, whole)
	}
}

// The same call answers the same each time.
func TestAnalysesAnswerTheSame(t *testing.T) {
	for _, m := range []impl.Medl{knownMedl(), handMedl([]int64{9}, oneRoundMode(), twoRoundMode())} {
		x := timetableOf(m)
		for range 20 {
			x.checkAnalysis(t)
			expectAnalysisRefused(t, m, 16, impl.ErrRange)
		}
	}
}

// An answer speaks of the schedule of its call and of no earlier one.
func TestAnalysesOfSchedulesThatDifferInOneDuration(t *testing.T) {
	for k, pair := range durationPairs() {
		if k%4 > 0 {
			continue
		}
		for _, x := range []timetable{pair[0], pair[1], pair[0]} {
			for mode := range int64(len(x.cycles)) {
				x.checkNodes(t, mode)
				expectUse(t, x.m, mode, x.use(mode), impl.ErrNone)
			}
		}
	}
}

// A schedule that the caller changes between two calls, in the same memory, is another one.
func TestAnalysesOfAScheduleThatHasBeenChanged(t *testing.T) {
	m := handMedl([]int64{9}, oneRoundMode(), twoRoundMode())
	for _, change := range []func(){
		func() {},
		func() { m.Slots[1].Desc.Duration++ },
		func() { m.Slots[3].Desc.Size = 6 },
		func() { m.Slots[0].Desc.Kind = impl.FrameCold; m.Slots[0].Desc.Duration = 151 },
		func() { m.Slots[2].Desc.Node = 1; m.Slots[1].Desc.Node = 0 },
		func() { m.Slots[5].Desc.Duration, m.Slots[8].Desc.Duration = 130, 130 },
		func() { m.Slots[5].Desc.Node, m.Slots[6].Desc.Node = m.Slots[6].Desc.Node, m.Slots[5].Desc.Node },
		func() { m.Modes, m.Slots = m.Modes[:1], m.Slots[:5] },
	} {
		change()
		x := timetableOf(copiedMedl(m))
		x.m = m
		expectFault(t, m, 0)
		x.checkAnalysis(t)
	}
	m.Nodes[3].Passive = false
	expectAnalysisErrInvalid(t, m)
	m.Nodes[3].Passive = true
	timetableOf(m).checkAnalysis(t)
}

// Several goroutines ask at once, about the same schedule and about some that differ from it in one Duration.
func TestAnalysesFromSeveralGoroutines(t *testing.T) {
	pairs := durationPairs()
	shared := timetableOf(handMedl([]int64{9}, oneRoundMode(), twoRoundMode()))
	var group sync.WaitGroup
	for worker := range 8 {
		group.Go(func() {
			for i := range 40 {
				x := pairs[i*7%len(pairs)][(i+worker)%2]
				x.checkNodes(t, 0)
				expectUse(t, x.m, 0, x.use(0), impl.ErrNone)
			}
			shared.checkAnalysis(t)
			expectAnalysisErrInvalid(t, withMedlId(shared.m, 0))
		})
	}
	group.Wait()
}

// analysisCalls are calls of all functions of the chapter.
func analysisCalls(m impl.Medl) []func(m impl.Medl) []int64 {
	var calls []func(m impl.Medl) []int64
	for _, mode := range []int64{-1, 0, int64(len(m.Modes)) - 1, int64(len(m.Modes))} {
		calls = append(calls,
			func(m impl.Medl) []int64 { got, code := impl.UseOf(m, mode); return []int64{got, code} },
			func(m impl.Medl) []int64 { got, code := impl.SlackOf(m, mode); return []int64{got, code} },
		)
		for _, node := range []int64{-1, 0, 1, 3, 4, 5, 9, 31} {
			calls = append(calls,
				func(m impl.Medl) []int64 {
					got, code := impl.GapsOf(m, mode, node)
					return append([]int64{code}, got...)
				},
				func(m impl.Medl) []int64 { got, code := impl.WorstGap(m, mode, node); return []int64{got, code} },
				func(m impl.Medl) []int64 { got, code := impl.JitterOf(m, mode, node); return []int64{got, code} },
				func(m impl.Medl) []int64 { got, code := impl.PayloadOf(m, mode, node); return []int64{got, code} },
				func(m impl.Medl) []int64 { got, code := impl.ChainTime(m, mode, node, 0); return []int64{got, code} },
				func(m impl.Medl) []int64 { got, code := impl.ChainTime(m, mode, 9, node); return []int64{got, code} },
			)
		}
	}
	return calls
}

// No function changes a table, the Next of an entry or the spare capacity behind them, whether it succeeds or fails.
func TestAnalysesLeaveMemoryAlone(t *testing.T) {
	found, refused := 0, 0
	for _, m := range append(medlsOfMemory(), handMedl([]int64{9}, oneRoundMode(), twoRoundMode())) {
		g := guardMedl(m)
		for i, call := range analysisCalls(m) {
			one, other := call(g.m), call(g.m)
			if !slices.Equal(one, other) {
				t.Errorf("%s: a second call %d returned another result", nameOfMedl(m), i)
			}
			if len(one) > 1 && one[0] > 0 {
				found++
			} else {
				refused++
			}
		}
		g.expectUntouched(t, "an analysis")
	}
	if found < 100 || refused < 100 {
		t.Errorf("%d calls returned a number, and %d did not", found, refused)
	}
}

func TestGapsAreNewMemory(t *testing.T) {
	gaps := 0
	for _, m := range append(medlsOfMemory(), oneNodeMedl(), smallestMedl(), handMedl([]int64{9}, oneRoundMode(), twoRoundMode())) {
		for mode := int64(-1); mode <= int64(len(m.Modes)); mode++ {
			for _, node := range append(notNodes()[:2], 0, 1, 3, 4, 9) {
				gaps += expectOwnMemory(t, "GapsOf", m, mark, func(m impl.Medl) []int64 { return first(impl.GapsOf(m, mode, node)) })
			}
		}
	}
	if gaps < 100 {
		t.Errorf("there are %d gaps in all results", gaps)
	}
}
