package tests

import (
	"fmt"
	"slices"
	"strings"
	"sync"
	"testing"

	"loop.example/g00833/impl"
)

// hasModeSlot reports whether the slot of an entry is one of a round of a mode. It does not use the program.
func hasModeSlot(m impl.Medl, x impl.SlotInfo) bool {
	for mode, y := range m.Modes {
		if x.Mode == int64(mode) && x.Round >= 0 && x.Round <= y.Rounds-1 && x.Slot >= 0 && x.Slot <= y.Slots-1 {
			return true
		}
	}
	return false
}

// entryOf returns the only entry of a slot, and whether there is one. It does not use the program.
func entryOf(m impl.Medl, mode int64, round int64, slot int64) (impl.SlotInfo, bool) {
	var found []impl.SlotInfo
	for _, x := range m.Slots {
		if x.Mode == mode && x.Round == round && x.Slot == slot {
			found = append(found, x)
		}
	}
	if len(found) != 1 {
		return impl.SlotInfo{}, false
	}
	return found[0], true
}

// roundsOf returns the rounds of a mode, no more than a mode can have and one more.
func roundsOf(x impl.ModeInfo) int64 { return max(0, min(x.Rounds, 9)) }

// keepsRule5 reports whether there is an entry exactly for each slot. It does not use the program.
func keepsRule5(m impl.Medl) bool {
	for _, x := range m.Slots {
		if !hasModeSlot(m, x) {
			return false
		}
	}
	for mode, x := range m.Modes {
		for round := range roundsOf(x) {
			for slot := range max(0, min(x.Slots, 17)) {
				if _, ok := entryOf(m, int64(mode), round, slot); !ok {
					return false
				}
			}
		}
	}
	return true
}

// isActive reports whether a node is the Id of an entry of Nodes that is not passive. It does not use the program.
func isActive(m impl.Medl, node int64) bool {
	return slices.ContainsFunc(m.Nodes, func(x impl.NodeInfo) bool { return x.Id == node && !x.Passive })
}

// keepsRule6 reports whether the senders of all entries are active nodes. It does not use the program.
func keepsRule6(m impl.Medl) bool {
	return !slices.ContainsFunc(m.Slots, func(x impl.SlotInfo) bool { return !isActive(m, x.Desc.Node) })
}

// keepsRule7 reports whether any two entries for the same slot of two rounds of a mode have the same Duration. It does not
// use the program.
func keepsRule7(m impl.Medl) bool {
	for _, x := range m.Slots {
		for _, y := range m.Slots {
			if x.Mode == y.Mode && x.Slot == y.Slot && x.Round != y.Round && x.Desc.Duration != y.Desc.Duration {
				return false
			}
		}
	}
	return true
}

// keepsRule8 reports whether no mode has a cycle time above 32000. It does not use the program, and the greatest Durations are
// too great for a sum of numbers of 64 bits.
func keepsRule8(m impl.Medl) bool {
	times := map[int64]float64{}
	for _, x := range m.Slots {
		times[x.Mode] += float64(x.Desc.Duration)
		if times[x.Mode] > 32000 {
			return false
		}
	}
	return true
}

// keepsRule9 reports whether each active node sends in each round. It does not use the program.
func keepsRule9(m impl.Medl) bool {
	for mode, x := range m.Modes {
		for round := range roundsOf(x) {
			for _, node := range m.Nodes {
				isEntry := func(y impl.SlotInfo) bool {
					return y.Mode == int64(mode) && y.Round == round && y.Desc.Node == node.Id
				}
				if !node.Passive && !slices.ContainsFunc(m.Slots, isEntry) {
					return false
				}
			}
		}
	}
	return true
}

// keepsRule10 reports whether frames that start the cluster are sent in the first mode alone. It does not use the program.
func keepsRule10(m impl.Medl) bool {
	return !slices.ContainsFunc(m.Slots, func(x impl.SlotInfo) bool { return x.Desc.Kind == 3 && x.Mode != 0 })
}

// faultsByReference returns the numbers of all rules that a schedule does not keep, strictly increasing. It does not use the
// program.
func faultsByReference(m impl.Medl) []int64 {
	var faults []int64
	for i, holds := range []bool{
		m.Id >= 1 && m.Id <= 16777215, isNodeTableByReference(m.Nodes), isModeTableByReference(m.Modes), isSlotTableByReference(m.Slots),
		keepsRule5(m), keepsRule6(m), keepsRule7(m), keepsRule8(m), keepsRule9(m), keepsRule10(m),
	} {
		if !holds {
			faults = append(faults, int64(i+1))
		}
	}
	return faults
}

// firstByReference returns what FirstFault returns. It does not use the program.
func firstByReference(m impl.Medl) int64 {
	for _, fault := range faultsByReference(m) {
		return fault
	}
	return 0
}

// copiedMedl returns a copy of a schedule that shares no memory with it.
func copiedMedl(m impl.Medl) impl.Medl {
	other := impl.Medl{Id: m.Id, Nodes: slices.Clone(m.Nodes), Modes: slices.Clone(m.Modes), Slots: slices.Clone(m.Slots)}
	for i := range other.Modes {
		other.Modes[i].Next = slices.Clone(other.Modes[i].Next)
	}
	return other
}

// changed returns a copy of a schedule that has been changed.
func changed(m impl.Medl, change func(m *impl.Medl)) impl.Medl {
	other := copiedMedl(m)
	change(&other)
	return other
}

// sameMedls reports whether two schedules are equal. A table that is nil is the same as an empty one.
func sameMedls(a impl.Medl, b impl.Medl) bool {
	return a.Id == b.Id && slices.Equal(a.Nodes, b.Nodes) && sameModes(a.Modes, b.Modes) && slices.Equal(a.Slots, b.Slots)
}

func nameOfMedl(m impl.Medl) string {
	return fmt.Sprintf("{%d; %s; %s; %s}", m.Id, nameOfTable(m.Nodes), nameOfModes(m.Modes), nameOfSlots(m.Slots))
}

// cyclePlan tells what a mode of a planned schedule has. The Durations of a round are drawn if its time is 0.
type cyclePlan struct{ rounds, slots, time int64 }

// medlPlan tells what a planned schedule has.
type medlPlan struct {
	cycles  []cyclePlan
	active  int
	passive int
	seed    uint64
}

// durations returns the Durations of the slots of a round.
func (c cyclePlan) durations(seed uint64) []int64 {
	if c.time > 0 {
		return spread(c.time, c.slots)
	}
	// A mode with these Durations has a cycle time of at most 32000.
	limit := min(1000, 32000/(c.rounds*c.slots))
	list := mixed(int(c.slots), limit-80, seed)
	for i, way := range mixed(int(c.slots), 4, seed+1) {
		switch way {
		case 0:
			list[i] = 81
		case 1:
			list[i] = limit
		default:
			list[i] += 81
		}
	}
	return list
}

// spread returns numbers of a sum that differ by at most 1.
func spread(sum int64, size int64) []int64 {
	list := repeated(sum/size, int(size))
	for i := range sum % size {
		list[i]++
	}
	return list
}

// shapesFor returns, for each Duration, the shapes that a descriptor may have with it.
var shapesFor = sync.OnceValue(func() [1001][]shape {
	var list [1001][]shape
	for _, x := range shapes() {
		for duration := leastDuration(x); duration <= 1000; duration++ {
			list[duration] = append(list[duration], x)
		}
	}
	return list
})

// nodes returns a node table of so many active and passive nodes.
func (p medlPlan) nodes() []impl.NodeInfo {
	size := p.active + p.passive
	table := someTable(size, p.seed)
	for i, index := range shuffled(rising(size), p.seed+1) {
		table[index].Passive = i >= p.active
	}
	return table
}

// modes returns a mode table with these cycles.
func (p medlPlan) modes() []impl.ModeInfo {
	table := drawnTable(len(p.cycles), 40, p.seed+2)
	for mode, c := range p.cycles {
		table[mode].Rounds, table[mode].Slots = c.rounds, c.slots
	}
	return table
}

// round returns the entries of a round, in which each of some nodes sends.
func (p medlPlan) round(mode int64, round int64, nodes []int64, durations []int64) []impl.SlotInfo {
	seed := p.seed + uint64(mode*8+round)*31
	senders := slices.Clone(nodes)
	for _, index := range mixed(len(durations)-len(nodes), int64(len(nodes)), seed+3) {
		senders = append(senders, nodes[index])
	}
	senders = shuffled(senders, seed+4)
	which, flags := mixed(len(durations), 1000, seed+5), mixed(len(durations), 2, seed+6)
	var list []impl.SlotInfo
	for slot, duration := range durations {
		x := shapesFor()[duration][which[slot]%int64(len(shapesFor()[duration]))]
		if x.kind == impl.FrameCold && mode > 0 {
			x.kind = impl.FrameInit
		}
		d := impl.Descriptor{Node: senders[slot], Kind: x.kind, Size: x.size, Duration: duration, Change: flags[slot] == 1 && x.kind != impl.FrameCold}
		list = append(list, impl.SlotInfo{Mode: mode, Round: round, Slot: int64(slot), Desc: d})
	}
	return list
}

// medl returns a schedule that keeps all rules if the plan has at least one cycle and at least one active node, no more active
// nodes than slots in any cycle, no more than 120 slots in all rounds, and no cycle time above 32000.
func (p medlPlan) medl() impl.Medl {
	m := impl.Medl{Id: 1 + mixed(1, 16777215, p.seed+7)[0], Nodes: p.nodes(), Modes: p.modes()}
	var active []int64
	for _, x := range m.Nodes {
		if !x.Passive {
			active = append(active, x.Id)
		}
	}
	for mode, c := range p.cycles {
		durations := c.durations(p.seed + uint64(mode)*17)
		for round := range c.rounds {
			m.Slots = append(m.Slots, p.round(int64(mode), round, active, durations)...)
		}
	}
	return m
}

// plannedMedl returns a schedule with these cycles.
func plannedMedl(active int, passive int, seed uint64, cycles ...cyclePlan) impl.Medl {
	return medlPlan{cycles, active, passive, seed}.medl()
}

// singleModeMedls returns schedules of one mode of all Rounds and Slots that a schedule may have.
func singleModeMedls() []impl.Medl {
	var list []impl.Medl
	for rounds := int64(1); rounds <= 8; rounds++ {
		for slots := int64(1); slots <= 16 && rounds*slots <= 120; slots++ {
			seed := uint64(rounds*16+slots) * 3
			cycle := cyclePlan{rounds: rounds, slots: slots}
			list = append(list, plannedMedl(1, int(slots)%3, seed+1000, cycle), plannedMedl(int(slots), int(rounds-1)*2, seed+1001, cycle))
			list = append(list, plannedMedl(int(slots+1)/2, 32-int(slots+1)/2, seed+1002, cycle))
		}
	}
	return list
}

// drawnCycles returns cycles of some modes, with at most 120 slots in all.
func drawnCycles(size int, seed uint64) []cyclePlan {
	var cycles []cyclePlan
	most := int64(120 / size)
	rounds, slots := mixed(size, 8, seed), mixed(size, 16, seed+1)
	for mode := range size {
		c := cyclePlan{rounds: 1 + rounds[mode], slots: 1 + slots[mode]}
		c.slots = min(c.slots, most)
		c.rounds = min(c.rounds, most/c.slots)
		cycles = append(cycles, c)
	}
	return cycles
}

// fewestSlots returns the number of slots of the shortest round of some cycles.
func fewestSlots(cycles []cyclePlan) int {
	fewest := int64(16)
	for _, c := range cycles {
		fewest = min(fewest, c.slots)
	}
	return int(fewest)
}

// severalModesMedls returns schedules of each number of modes.
func severalModesMedls() []impl.Medl {
	var list []impl.Medl
	for size := 2; size <= 16; size++ {
		for i := range uint64(8) {
			seed := uint64(size)*64 + i*5 + 1600
			cycles := drawnCycles(size, seed)
			if i%2 == 1 {
				// All rounds are at least of a few slots, so several nodes are active.
				for k := range cycles {
					cycles[k] = cyclePlan{rounds: 1 + int64(k)%2, slots: min(16, int64(60/size)+int64(k)%2)}
				}
			}
			active := max(1, fewestSlots(cycles)-int(i/2))
			list = append(list, plannedMedl(active, int(seed)%9, seed, cycles...))
		}
	}
	return list
}

// fullMedls returns schedules of 120 entries.
func fullMedls() []impl.Medl {
	list := []impl.Medl{
		plannedMedl(15, 17, 2800, cyclePlan{rounds: 8, slots: 15}),
		plannedMedl(8, 24, 2801, cyclePlan{rounds: 3, slots: 16}, cyclePlan{rounds: 4, slots: 16}, cyclePlan{rounds: 1, slots: 8}),
		plannedMedl(5, 0, 2802, cyclePlan{rounds: 8, slots: 5}, cyclePlan{rounds: 5, slots: 8}, cyclePlan{rounds: 8, slots: 5}),
		plannedMedl(1, 31, 2803, cyclePlan{rounds: 8, slots: 1}, cyclePlan{rounds: 7, slots: 16}),
		plannedMedl(3, 2, 2804, cyclePlan{rounds: 8, slots: 8}, cyclePlan{rounds: 8, slots: 7}),
	}
	var rows, columns []cyclePlan
	for mode := range int64(15) {
		rows = append(rows, cyclePlan{rounds: 1, slots: 7 + mode/14})
		columns = append(columns, cyclePlan{rounds: 7 + mode/14, slots: 1})
	}
	rows, columns = append(rows, cyclePlan{rounds: 1, slots: 14}), append(columns, cyclePlan{rounds: 7, slots: 2})
	return append(list, plannedMedl(7, 3, 2805, rows...), plannedMedl(1, 5, 2806, columns...))
}

// longestCycles are cycles with a time of exactly 32000.
func longestCycles() []cyclePlan {
	return []cyclePlan{
		{8, 4, 4000}, {8, 5, 4000}, {8, 11, 4000}, {8, 15, 4000}, {5, 7, 6400}, {5, 16, 6400}, {4, 8, 8000}, {4, 9, 8000}, {4, 16, 8000}, {2, 16, 16000},
	}
}

// longestMedls returns schedules with a cycle time of exactly 32000, in the first or the last mode or in both, and among
// them some in which the cycle times of all modes have a greater sum.
func longestMedls() []impl.Medl {
	var list []impl.Medl
	for i, long := range longestCycles() {
		seed := uint64(i)*40 + 2900
		other := cyclePlan{rounds: 2, slots: min(4, (120-long.rounds*long.slots)/2)}
		list = append(list, plannedMedl(4, 2, seed, long), plannedMedl(2, 0, seed+1, long))
		if other.slots >= 3 {
			list = append(list, plannedMedl(3, 1, seed+2, long, other), plannedMedl(3, 0, seed+3, other, long))
		}
		if long.rounds*long.slots <= 60 {
			list = append(list, plannedMedl(4, 3, seed+4, long, long))
		}
		if long.rounds*long.slots <= 40 {
			list = append(list, plannedMedl(4, 0, seed+5, long, long, long))
		}
	}
	return list
}

// shortestMedls returns schedules with the least cycle time that there is, and with little more.
func shortestMedls() []impl.Medl {
	one := cyclePlan{1, 1, 81}
	return []impl.Medl{
		plannedMedl(1, 0, 3400, one), plannedMedl(1, 0, 3401, cyclePlan{1, 1, 82}), plannedMedl(1, 31, 3402, one, one), plannedMedl(2, 0, 3403, cyclePlan{1, 2, 162}),
		plannedMedl(1, 1, 3404, cyclePlan{2, 1, 81}, one), plannedMedl(1, 0, 3405, slices.Repeat([]cyclePlan{one}, 16)...), plannedMedl(1, 0, 3406, cyclePlan{1, 1, 1000}),
	}
}

// someMedls returns a few well-formed schedules of different kinds.
var someMedls = sync.OnceValue(func() []impl.Medl {
	list := []impl.Medl{knownMedl(), slackMedl()}
	for i, m := range slices.Concat(singleModeMedls(), severalModesMedls()) {
		if i%41 == 0 {
			list = append(list, m)
		}
	}
	return slices.Clip(slices.Concat(list, fullMedls(), longestMedls()[:8], shortestMedls()))
})

// manyMedls returns many well-formed schedules.
var manyMedls = sync.OnceValue(func() []impl.Medl {
	return slices.Concat(someMedls(), singleModeMedls(), severalModesMedls(), longestMedls())
})

// knownMedl is the schedule that SmallMedl returns, written out again.
func knownMedl() impl.Medl {
	return impl.Medl{
		Id:    77,
		Nodes: []impl.NodeInfo{{Id: 0, Name: "a", Drift: 100, Passive: false}, {Id: 1, Name: "b", Drift: 50, Passive: false}},
		Modes: []impl.ModeInfo{{Rounds: 2, Slots: 2, Next: []int64{1}}, {Rounds: 1, Slots: 2, Next: []int64{0}}},
		Slots: []impl.SlotInfo{
			{Mode: 0, Round: 0, Slot: 0, Desc: impl.Descriptor{Node: 0, Kind: 3, Size: 0, Duration: 200, Change: false}},
			{Mode: 0, Round: 0, Slot: 1, Desc: impl.Descriptor{Node: 1, Kind: 1, Size: 0, Duration: 200, Change: false}},
			{Mode: 0, Round: 1, Slot: 0, Desc: impl.Descriptor{Node: 0, Kind: 0, Size: 4, Duration: 200, Change: true}},
			{Mode: 0, Round: 1, Slot: 1, Desc: impl.Descriptor{Node: 1, Kind: 0, Size: 2, Duration: 200, Change: false}},
			{Mode: 1, Round: 0, Slot: 0, Desc: impl.Descriptor{Node: 1, Kind: 2, Size: 3, Duration: 300, Change: true}},
			{Mode: 1, Round: 0, Slot: 1, Desc: impl.Descriptor{Node: 0, Kind: 0, Size: 0, Duration: 150, Change: false}},
		},
	}
}

// slackMedl is a schedule of three modes in which rules can be broken one by one: in the modes 0 and 1 each node sends twice
// in each round, the cycle time of the mode 0 is 31998, and the node 5 is passive.
func slackMedl() impl.Medl {
	m := impl.Medl{
		Id:    16777215,
		Nodes: []impl.NodeInfo{{Id: 0, Name: "a", Drift: 1000}, {Id: 3, Name: "b"}, {Id: 5, Name: "c", Passive: true}, {Id: 9, Name: "d"}},
		Modes: []impl.ModeInfo{{Rounds: 3, Slots: 12, Next: []int64{1, 2}}, {Rounds: 2, Slots: 6, Next: []int64{0}}, {Rounds: 2, Slots: 3}},
	}
	nodes := []int64{0, 3, 9}
	for mode, x := range m.Modes {
		for round := range x.Rounds {
			for slot := range x.Slots {
				duration := []int64{spread(10666, 12)[slot%12], 200 + slot, 300}[mode]
				d := impl.Descriptor{Node: nodes[(slot+round)%3], Kind: impl.FrameNormal, Size: slot, Duration: duration, Change: slot == 1}
				m.Slots = append(m.Slots, impl.SlotInfo{Mode: int64(mode), Round: round, Slot: slot, Desc: d})
			}
		}
	}
	return m
}

// indexOf returns the index of the only entry for a slot.
func indexOf(m impl.Medl, mode int64, round int64, slot int64) int {
	return slices.IndexFunc(m.Slots, func(x impl.SlotInfo) bool { return x.Mode == mode && x.Round == round && x.Slot == slot })
}

// descriptorOf returns the place of the Desc of the entry for a slot.
func descriptorOf(m *impl.Medl, mode int64, round int64, slot int64) *impl.Descriptor {
	return &m.Slots[indexOf(*m, mode, round, slot)].Desc
}

// expectFault fails the test if FirstFault does not return a number, or IsMedl does not say whether it is 0. It is called so
// often that the call is named only in a failure, as are those below.
func expectFault(t *testing.T, m impl.Medl, want int64) {
	t.Helper()
	if got := impl.FirstFault(m); got != want {
		t.Errorf("FirstFault %s is %d, want %d", nameOfMedl(m), got, want)
	}
	if got := impl.IsMedl(m); got != (want == 0) {
		t.Errorf("IsMedl %s is %v", nameOfMedl(m), got)
	}
}

// expectFaults fails the test if a schedule does not break these rules alone, or FirstFault does not return the first one.
func expectFaults(t *testing.T, m impl.Medl, want ...int64) {
	t.Helper()
	if got := faultsByReference(m); !slices.Equal(got, want) {
		t.Errorf("%s breaks the rules %v, want %v", nameOfMedl(m), got, want)
	}
	expectFault(t, m, append(want, 0)[0])
}

// checkFault compares FirstFault with the reference, and returns the number.
func checkFault(t *testing.T, m impl.Medl) int64 {
	t.Helper()
	fault := firstByReference(m)
	expectFault(t, m, fault)
	return fault
}

func expectCycleTime(t *testing.T, m impl.Medl, mode int64, want int64, wantCode int64) {
	t.Helper()
	if got, code := impl.CycleTime(m, mode); got != want || code != wantCode {
		t.Errorf("CycleTime %s %d: %d, code %d, want %d, code %d", nameOfMedl(m), mode, got, code, want, wantCode)
	}
}

func expectRoundTime(t *testing.T, m impl.Medl, mode int64, want int64, wantCode int64) {
	t.Helper()
	if got, code := impl.RoundTime(m, mode); got != want || code != wantCode {
		t.Errorf("RoundTime %s %d: %d, code %d, want %d, code %d", nameOfMedl(m), mode, got, code, want, wantCode)
	}
}

func expectWithId(t *testing.T, m impl.Medl, id int64, want impl.Medl, wantCode int64) {
	t.Helper()
	if got, code := impl.WithId(m, id); !sameMedls(got, want) || code != wantCode {
		t.Errorf("WithId %s %d: %s, code %d, want %s, code %d", nameOfMedl(m), id, nameOfMedl(got), code, nameOfMedl(want), wantCode)
	}
}

func expectSender(t *testing.T, m impl.Medl, mode int64, round int64, slot int64, want int64, wantCode int64) {
	t.Helper()
	if got, code := impl.SenderOf(m, mode, round, slot); got != want || code != wantCode {
		t.Errorf("SenderOf %s %d %d %d: %d, code %d, want %d, code %d", nameOfMedl(m), mode, round, slot, got, code, want, wantCode)
	}
}

func TestConstantsOfMedls(t *testing.T) {
	expectNumber(t, "the constant", impl.MaxCycle, 0, 32000, 0)
}

func TestSmallMedl(t *testing.T) {
	m, want := impl.SmallMedl(), knownMedl()
	expectNumber(t, "Id", m.Id, 0, 77, 0)
	if !slices.Equal(m.Nodes, want.Nodes) {
		t.Errorf("Nodes are %v, want %v", m.Nodes, want.Nodes)
	}
	if !sameModes(m.Modes, want.Modes) {
		t.Errorf("Modes are %v, want %v", m.Modes, want.Modes)
	}
	if len(m.Slots) != len(want.Slots) {
		t.Fatalf("there are %d entries, want %d", len(m.Slots), len(want.Slots))
	}
	for i, x := range m.Slots {
		expectList(t, fmt.Sprintf("the place of the entry %d", i), []int64{x.Mode, x.Round, x.Slot}, 0, []int64{want.Slots[i].Mode, want.Slots[i].Round, want.Slots[i].Slot}, 0)
		expectList(t, fmt.Sprintf("Desc of the entry %d", i), descriptorFields(x.Desc), 0, descriptorFields(want.Slots[i].Desc), 0)
	}
	expectFaults(t, m)
	expectFaults(t, want)
}

// What is written into the first result does not change the second one, nor do parts of one result share memory.
func TestSmallMedlIsNewEachTime(t *testing.T) {
	first := impl.SmallMedl()
	overwriteMedl(t, "SmallMedl", first, knownMedl())
	second := impl.SmallMedl()
	if !sameMedls(second, knownMedl()) {
		t.Errorf("the second result is %s", nameOfMedl(second))
	}
	third := impl.SmallMedl()
	overwriteMedl(t, "SmallMedl", second, knownMedl())
	if !sameMedls(third, knownMedl()) {
		t.Errorf("the third result is %s", nameOfMedl(third))
	}
}

// fillAll overwrites a list and its spare capacity.
func fillAll[T any](list []T, x T) {
	list = list[:cap(list)]
	for i := range list {
		list[i] = x
	}
}

// overwriteMedl writes to each part of a schedule after the other, and to its spare capacity, and fails the test if this
// changes another part of it.
func overwriteMedl(t *testing.T, name string, m impl.Medl, want impl.Medl) {
	t.Helper()
	want = copiedMedl(want)
	expect := func(part string) {
		t.Helper()
		if !sameMedls(m, want) {
			t.Fatalf("%s: after writing to %s the result is %s, want %s", name, part, nameOfMedl(m), nameOfMedl(want))
		}
	}
	expect("nothing")
	for i, x := range m.Modes {
		fillAll(x.Next, mark)
		want.Modes[i].Next = repeated(mark, len(x.Next))
		expect(fmt.Sprintf("Next of the mode %d", i))
	}
	fillAll(m.Nodes, markedEntry)
	fillAll(want.Nodes, markedEntry)
	expect("Nodes")
	fillAll(m.Slots, markedSlot)
	fillAll(want.Slots, markedSlot)
	expect("Slots")
	fillAll(m.Modes, markedMode)
	fillAll(want.Modes, markedMode)
	expect("Modes")
}

func TestKnownMedls(t *testing.T) {
	small := knownMedl()
	for _, x := range []struct {
		change func(m *impl.Medl)
		faults []int64
	}{
		{func(m *impl.Medl) {}, nil},
		{func(m *impl.Medl) { *m = impl.Medl{} }, []int64{1, 2, 3}},
		{func(m *impl.Medl) {
			*m = impl.Medl{Id: 1, Nodes: []impl.NodeInfo{}, Modes: []impl.ModeInfo{}, Slots: []impl.SlotInfo{}}
		}, []int64{2, 3}},
		{func(m *impl.Medl) { m.Id = 1 }, nil},
		{func(m *impl.Medl) { m.Id = 0 }, []int64{1}},
		{func(m *impl.Medl) { m.Id = -1 }, []int64{1}},
		{func(m *impl.Medl) { m.Id = 16777215 }, nil},
		{func(m *impl.Medl) { m.Id = 16777216 }, []int64{1}},
		{func(m *impl.Medl) { m.Nodes = nil }, []int64{2, 6}},
		{func(m *impl.Medl) { m.Nodes[1].Name = "a" }, []int64{2}},
		{func(m *impl.Medl) { m.Nodes[1].Drift = 1001 }, []int64{2}},
		{func(m *impl.Medl) { m.Nodes[1].Drift = 1000 }, nil},
		{func(m *impl.Medl) { m.Nodes[1].Id = 2 }, []int64{6, 9}},
		{func(m *impl.Medl) { m.Nodes[1].Passive = true }, []int64{6}},
		{func(m *impl.Medl) { m.Nodes = append(m.Nodes, impl.NodeInfo{Id: 31, Name: "c", Passive: true}) }, nil},
		{func(m *impl.Medl) { m.Nodes = append(m.Nodes, impl.NodeInfo{Id: 31, Name: "c"}) }, []int64{9}},
		{func(m *impl.Medl) { m.Modes = nil }, []int64{3, 5}},
		{func(m *impl.Medl) { m.Modes[0].Next = nil }, nil},
		{func(m *impl.Medl) { m.Modes[0].Next = []int64{0} }, []int64{3}},
		{func(m *impl.Medl) { m.Modes[0].Next = []int64{2} }, []int64{3}},
		{func(m *impl.Medl) { m.Modes[0].Rounds = 1 }, []int64{5}},
		{func(m *impl.Medl) { m.Modes[0].Rounds = 3 }, []int64{5, 9}},
		{func(m *impl.Medl) { m.Modes[0].Slots = 3 }, []int64{5}},
		{func(m *impl.Medl) { m.Modes[0].Slots = 1 }, []int64{5}},
		{func(m *impl.Medl) { m.Modes[0] = impl.ModeInfo{Rounds: 1, Slots: 4} }, []int64{5}},
		{func(m *impl.Medl) { m.Modes[1] = impl.ModeInfo{Rounds: 2, Slots: 1} }, []int64{5, 9}},
		{func(m *impl.Medl) { m.Modes = append(m.Modes, impl.ModeInfo{Rounds: 1, Slots: 1}) }, []int64{5, 9}},
		{func(m *impl.Medl) { m.Slots = nil }, []int64{5, 9}},
		{func(m *impl.Medl) { m.Slots[0], m.Slots[1] = m.Slots[1], m.Slots[0] }, []int64{4}},
		{func(m *impl.Medl) { m.Slots = m.Slots[:5] }, []int64{5, 9}},
		{func(m *impl.Medl) { m.Slots[3].Desc.Node = 0 }, []int64{9}},
		{func(m *impl.Medl) { m.Slots[3].Desc.Node = 2 }, []int64{6, 9}},
		{func(m *impl.Medl) { m.Slots[3].Desc.Duration = 199 }, []int64{7}},
		{func(m *impl.Medl) { m.Slots[5].Desc.Duration = 199 }, nil},
		{func(m *impl.Medl) { m.Slots[5].Desc = m.Slots[0].Desc }, []int64{10}},
		{func(m *impl.Medl) { m.Slots[3].Desc.Kind, m.Slots[3].Desc.Size = impl.FrameCold, 0 }, nil},
	} {
		expectFaults(t, changed(small, x.change), x.faults...)
	}
	expectFaults(t, slackMedl())
}

// The plans of the tests give well-formed schedules, of all the kinds that promise 10 is tested with.
func TestManyMedlsAreWellFormed(t *testing.T) {
	kinds := map[string]int{}
	for _, m := range manyMedls() {
		expectFaults(t, m)
		count := func(kind string, is bool) {
			if is {
				kinds[kind]++
			}
		}
		count("one mode", len(m.Modes) == 1)
		count("several modes", len(m.Modes) > 1)
		count("most modes", len(m.Modes) == 16)
		count("most nodes", len(m.Nodes) == 32)
		count("most entries", len(m.Slots) == 120)
		count("one entry", len(m.Slots) == 1)
		count("passive nodes", slices.ContainsFunc(m.Nodes, func(x impl.NodeInfo) bool { return x.Passive }))
		for mode, x := range m.Modes {
			count("one round", x.Rounds == 1)
			count("most rounds", x.Rounds == 8)
			count("one slot", x.Slots == 1)
			count("most slots", x.Slots == 16)
			rounds, cycle := timesByReference(m, int64(mode))
			count("least cycle time", cycle == 81)
			count("greatest cycle time", cycle == 32000)
			count("durations that differ", rounds[0] != x.Slots*m.Slots[indexOf(m, int64(mode), 0, 0)].Desc.Duration)
		}
	}
	for _, kind := range []string{"one mode", "several modes", "most modes", "most nodes", "most entries", "one entry", "passive nodes", "one round", "most rounds", "one slot", "most slots", "least cycle time", "greatest cycle time", "durations that differ"} {
		if kinds[kind] < 5 {
			t.Errorf("%d of the schedules have %s", kinds[kind], kind)
		}
	}
}

// timesByReference returns the sum of the Durations of each round of a mode, and of the whole mode. It does not use the program.
func timesByReference(m impl.Medl, mode int64) ([]int64, int64) {
	rounds, cycle := make([]int64, m.Modes[mode].Rounds), int64(0)
	for _, x := range m.Slots {
		if x.Mode == mode {
			rounds[x.Round] += x.Desc.Duration
			cycle += x.Desc.Duration
		}
	}
	return rounds, cycle
}

// checkSender compares SenderOf of a slot with the entries of a schedule, and checks what promise 10 says.
func checkSender(t *testing.T, m impl.Medl, mode int64, round int64, slot int64) {
	t.Helper()
	x, ok := entryOf(m, mode, round, slot)
	if !hasModeSlot(m, impl.SlotInfo{Mode: mode, Round: round, Slot: slot}) {
		expectSender(t, m, mode, round, slot, 0, impl.ErrNotFound)
		return
	}
	if !ok || !isActive(m, x.Desc.Node) {
		t.Errorf("%s has no active sender in the slot %d %d %d", nameOfMedl(m), mode, round, slot)
	}
	expectSender(t, m, mode, round, slot, x.Desc.Node, impl.ErrNone)
}

// farNumbers are numbers that are no mode, round or slot of any schedule.
func farNumbers() []int64 {
	return []int64{-1, -2, -16, 16, 17, 255, 256, 257, 1 << 32, 1<<32 + 1, -1 << 32, least, least + 1, greatest - 1, greatest}
}

// Promise 10: each slot has one active sender, and no other slot has one.
func TestEachSlotHasOneActiveSender(t *testing.T) {
	for _, m := range manyMedls() {
		if !impl.IsMedl(m) {
			t.Errorf("%s is not well-formed", nameOfMedl(m))
		}
		for mode, x := range m.Modes {
			for round := range x.Rounds + 1 {
				for slot := range x.Slots + 1 {
					checkSender(t, m, int64(mode), round, slot)
				}
			}
		}
		last := int64(len(m.Modes))
		checkSender(t, m, last, 0, 0)
		checkSender(t, m, last-1, m.Modes[last-1].Rounds-1, m.Modes[last-1].Slots)
	}
}

// Promise 10: each slot that an entry may be for is tried, and numbers that are far away.
func TestNoOtherSlotHasASender(t *testing.T) {
	for _, m := range someMedls() {
		for mode := range int64(16) {
			for round := range int64(8) {
				for slot := range int64(16) {
					checkSender(t, m, mode, round, slot)
				}
			}
		}
		for _, far := range farNumbers() {
			for _, near := range []int64{0, 1} {
				checkSender(t, m, far, near, 0)
				checkSender(t, m, near, far, 0)
				checkSender(t, m, 0, near, far)
				checkSender(t, m, far, far, near)
				checkSender(t, m, far, far, far)
			}
		}
	}
}

// Promise 10, the guarantee of the chapter: the cycle time is Rounds times the round time, and both are sums of Durations.
func TestCycleTimeIsRoundsTimesRoundTime(t *testing.T) {
	for _, m := range manyMedls() {
		for mode, x := range m.Modes {
			rounds, cycle := timesByReference(m, int64(mode))
			for _, sum := range rounds {
				expectRoundTime(t, m, int64(mode), sum, impl.ErrNone)
			}
			expectCycleTime(t, m, int64(mode), cycle, impl.ErrNone)
			got, code := impl.CycleTime(m, int64(mode))
			one, oneCode := impl.RoundTime(m, int64(mode))
			if got != x.Rounds*one || got <= 0 || got > 32000 || code != impl.ErrNone || oneCode != impl.ErrNone {
				t.Errorf("%s: the mode %d has the cycle time %d, code %d, and the round time %d, code %d", nameOfMedl(m), mode, got, code, one, oneCode)
			}
		}
		for _, mode := range notModes(len(m.Modes)) {
			expectCycleTime(t, m, mode, 0, impl.ErrRange)
			expectRoundTime(t, m, mode, 0, impl.ErrRange)
		}
	}
}

func TestKnownTimes(t *testing.T) {
	for _, x := range []struct {
		m            impl.Medl
		mode         int64
		round, cycle int64
	}{
		{knownMedl(), 0, 400, 800},
		{knownMedl(), 1, 450, 450},
		{slackMedl(), 0, 10666, 31998},
		{slackMedl(), 1, 1215, 2430},
		{slackMedl(), 2, 900, 1800},
		{plannedMedl(1, 0, 3410, cyclePlan{1, 1, 81}), 0, 81, 81},
		{plannedMedl(1, 0, 3411, cyclePlan{8, 4, 4000}), 0, 4000, 32000},
		{plannedMedl(2, 3, 3412, cyclePlan{1, 2, 200}, cyclePlan{2, 16, 16000}), 1, 16000, 32000},
		{plannedMedl(2, 3, 3412, cyclePlan{1, 2, 200}, cyclePlan{2, 16, 16000}), 0, 200, 200},
		{plannedMedl(8, 0, 3413, cyclePlan{8, 15, 4000}), 0, 4000, 32000},
		{plannedMedl(4, 1, 3414, cyclePlan{7, 16, 4571}), 0, 4571, 31997},
	} {
		expectRoundTime(t, x.m, x.mode, x.round, impl.ErrNone)
		expectCycleTime(t, x.m, x.mode, x.cycle, impl.ErrNone)
	}
}

// goodIds are numbers of well-formed schedules.
func goodIds() []int64 {
	return []int64{1, 2, 77, 255, 256, 65535, 65536, 1<<23 - 1, 1 << 23, 16777214, 16777215}
}

// wrongIds are numbers that no well-formed schedule has.
func wrongIds() []int64 { return append(notIds(), 0) }

// Promise 10: WithId changes Id alone, and the result is well-formed again.
func TestWithIdChangesIdAlone(t *testing.T) {
	for i, m := range manyMedls() {
		numbers := append(goodIds(), m.Id)
		for _, id := range numbers[i%6 : i%6+7] {
			want := changed(m, func(other *impl.Medl) { other.Id = id })
			expectWithId(t, m, id, want, impl.ErrNone)
			got, _ := impl.WithId(m, id)
			expectNumber(t, "Id", got.Id, 0, id, 0)
			expectFault(t, got, 0)
		}
		for _, id := range wrongIds() {
			expectWithId(t, m, id, impl.Medl{}, impl.ErrRange)
		}
	}
}

func TestWithIdOfManyIds(t *testing.T) {
	small := knownMedl()
	for id := int64(-300); id <= 1000; id++ {
		for _, number := range []int64{id, 16777215 + id, 1<<16 + id, 1<<32 + id} {
			want, code := impl.Medl{}, int64(impl.ErrRange)
			if number >= 1 && number <= 16777215 {
				want, code = knownMedl(), impl.ErrNone
				want.Id = number
			}
			expectWithId(t, small, number, want, code)
		}
	}
}

// Rule 1.
func TestRuleOfIds(t *testing.T) {
	for _, m := range someMedls() {
		for _, id := range goodIds() {
			expectFaults(t, changed(m, func(m *impl.Medl) { m.Id = id }))
		}
		for _, id := range wrongIds() {
			expectFaults(t, changed(m, func(m *impl.Medl) { m.Id = id }), 1)
		}
	}
}

// Rule 2: entries that make the list no node table by as little as there is, and all lists of the tests that are none.
func TestRuleOfNodes(t *testing.T) {
	for _, m := range someMedls() {
		for _, index := range []int{0, len(m.Nodes) / 2, len(m.Nodes) - 1} {
			for _, change := range []func(x *impl.NodeInfo){
				func(x *impl.NodeInfo) { x.Drift = 1001 }, func(x *impl.NodeInfo) { x.Drift = -1 },
				func(x *impl.NodeInfo) { x.Name = "" }, func(x *impl.NodeInfo) { x.Name = "abcdefg" }, func(x *impl.NodeInfo) { x.Name = "A" },
			} {
				expectFaults(t, changed(m, func(m *impl.Medl) { change(&m.Nodes[index]) }), 2)
			}
			if len(m.Nodes) > 1 {
				other := (index + 1) % len(m.Nodes)
				expectFaults(t, changed(m, func(m *impl.Medl) { m.Nodes[index].Name = m.Nodes[other].Name }), 2)
				expectFaults(t, changed(m, func(m *impl.Medl) { m.Nodes[index], m.Nodes[other] = m.Nodes[other], m.Nodes[index] }), 2)
			}
			doubled := changed(m, func(m *impl.Medl) { m.Nodes = slices.Insert(m.Nodes, index, m.Nodes[index]) })
			expectFaults(t, doubled, 2)
		}
	}
	for i, table := range notNodeTables() {
		m := someMedls()[i%len(someMedls())]
		m.Nodes = table
		expectFault(t, m, 2)
		m.Id = wrongIds()[i%len(wrongIds())]
		expectFault(t, m, 1)
	}
}

// Rule 3: entries that make the list no mode table by as little as there is, and all lists of the tests that are none.
func TestRuleOfModes(t *testing.T) {
	for _, m := range someMedls() {
		size := int64(len(m.Modes))
		for _, mode := range []int64{0, size / 2, size - 1} {
			for _, next := range [][]int64{{mode}, {size}, {-1}, {greatest}, {0, 0}, {size - 1, 0}, rising(int(size)), rising(int(size) + 1)} {
				if size > 1 || !slices.Equal(next, []int64{0, 0}) {
					expectFaults(t, changed(m, func(m *impl.Medl) { m.Modes[mode].Next = next }), 3)
				}
			}
			for _, x := range []impl.ModeInfo{{Rounds: 0, Slots: 1}, {Rounds: 1, Slots: 0}, {Rounds: 9, Slots: 1}, {Rounds: 1, Slots: 17}, {Rounds: -1, Slots: -1}, {Rounds: greatest, Slots: greatest}, {Rounds: least, Slots: 2}} {
				expectFault(t, changed(m, func(m *impl.Medl) { m.Modes[mode] = x }), 3)
			}
		}
	}
	wrong := notNodeTables()
	for i, table := range notModeTables() {
		m := someMedls()[i%len(someMedls())]
		m.Modes = table
		expectFault(t, m, 3)
		m.Nodes = wrong[i%len(wrong)]
		expectFault(t, m, 2)
	}
}

// Rule 4: entries that make the list no slot table by as little as there is, and all lists of the tests that are none.
func TestRuleOfSlots(t *testing.T) {
	for _, m := range someMedls() {
		for _, index := range threeIndices(m.Slots) {
			expectFaults(t, changed(m, func(m *impl.Medl) { m.Slots[index].Desc.Size = -1 }), 4)
			expectFault(t, changed(m, func(m *impl.Medl) { m.Slots[index].Desc.Duration = 1001 }), 4)
			expectFault(t, changed(m, func(m *impl.Medl) { m.Slots[index].Desc.Duration = greatest }), 4)
			expectFault(t, changed(m, func(m *impl.Medl) { m.Slots[index].Desc.Node = 32 }), 4)
			expectFault(t, changed(m, func(m *impl.Medl) { m.Slots[index].Round = 8 }), 4)
			expectFault(t, changed(m, func(m *impl.Medl) { m.Slots = slices.Insert(m.Slots, index, m.Slots[index]) }), 4)
			if index > 0 {
				expectFaults(t, changed(m, func(m *impl.Medl) { m.Slots[index-1], m.Slots[index] = m.Slots[index], m.Slots[index-1] }), 4)
			}
		}
	}
	wrong := notModeTables()
	for i, table := range notSlotTables() {
		m := someMedls()[i%len(someMedls())]
		m.Slots = table
		expectFault(t, m, 4)
		m.Modes = wrong[i%len(wrong)]
		expectFault(t, m, 3)
	}
}

// Rule 4: a schedule with one entry more than a slot table may have keeps all other rules.
func TestRuleOfSlotsForTooManySlots(t *testing.T) {
	for i, cycles := range [][]cyclePlan{
		{{rounds: 8, slots: 15}, {rounds: 1, slots: 1}}, {{rounds: 1, slots: 1}, {rounds: 8, slots: 15}}, {{rounds: 8, slots: 16}},
		{{rounds: 7, slots: 16}, {rounds: 3, slots: 3}}, {{rounds: 8, slots: 16}, {rounds: 8, slots: 16}},
	} {
		expectFaults(t, plannedMedl(1, 2, uint64(i)+3420, cycles...), 4)
	}
}

// Rule 5: in the modes 0 and 1 each node sends twice, so it is the only rule that one missing entry breaks there.
func TestRuleOfMissingEntries(t *testing.T) {
	m := slackMedl()
	for index := range m.Slots {
		missing := changed(m, func(m *impl.Medl) { m.Slots = slices.Delete(m.Slots, index, index+1) })
		if m.Slots[index].Mode < 2 {
			expectFaults(t, missing, 5)
		} else {
			expectFaults(t, missing, 5, 9)
		}
	}
	for _, m := range someMedls() {
		for _, index := range threeIndices(m.Slots) {
			expectFault(t, changed(m, func(m *impl.Medl) { m.Slots = slices.Delete(m.Slots, index, index+1) }), 5)
		}
		for _, table := range [][]impl.SlotInfo{nil, {}} {
			expectFault(t, changed(m, func(m *impl.Medl) { m.Slots = table }), 5)
		}
	}
}

// withEntryFor returns a schedule with an entry for one more slot, with a descriptor that breaks no other rule.
func withEntryFor(m impl.Medl, mode int64, round int64, slot int64) impl.Medl {
	d := m.Slots[0].Desc
	d.Kind, d.Size, d.Change = impl.FrameNormal, 0, false
	d.Duration = 81
	for _, x := range m.Slots {
		if x.Mode == mode && x.Slot == slot {
			d.Duration = x.Desc.Duration
		}
	}
	return changed(m, func(m *impl.Medl) {
		m.Slots = sortedSlots(append(m.Slots, impl.SlotInfo{Mode: mode, Round: round, Slot: slot, Desc: d}))
	})
}

// placesAround returns slots that are none of a schedule, each by its Mode, by its Round or by its Slot.
func placesAround(m impl.Medl) []impl.SlotInfo {
	var list []impl.SlotInfo
	for mode, x := range m.Modes {
		for _, round := range []int64{x.Rounds, x.Rounds + 1, 7} {
			list = append(list, impl.SlotInfo{Mode: int64(mode), Round: round}, impl.SlotInfo{Mode: int64(mode), Round: round, Slot: x.Slots - 1})
		}
		for _, slot := range []int64{x.Slots, x.Slots + 1, 15} {
			list = append(list, impl.SlotInfo{Mode: int64(mode), Slot: slot}, impl.SlotInfo{Mode: int64(mode), Round: x.Rounds - 1, Slot: slot})
		}
		list = append(list, impl.SlotInfo{Mode: int64(mode), Round: x.Rounds, Slot: x.Slots})
	}
	for _, mode := range []int64{int64(len(m.Modes)), int64(len(m.Modes)) + 1, 15} {
		list = append(list, impl.SlotInfo{Mode: mode}, impl.SlotInfo{Mode: mode, Slot: 1}, impl.SlotInfo{Mode: mode, Round: 1}, impl.SlotInfo{Mode: mode, Round: 7, Slot: 15})
	}
	return list
}

// Rule 5: one entry too many by its Mode, by its Round and by its Slot breaks no other rule, and neither does one instead of
// one that is missing.
func TestRuleOfFurtherEntries(t *testing.T) {
	short := cyclePlan{rounds: 3, slots: 12, time: 3000}
	for _, m := range []impl.Medl{
		knownMedl(), plannedMedl(3, 1, 3430, short, cyclePlan{rounds: 2, slots: 6}), plannedMedl(1, 1, 3431, cyclePlan{rounds: 1, slots: 1}),
		plannedMedl(2, 0, 3432, cyclePlan{rounds: 2, slots: 4}, cyclePlan{rounds: 3, slots: 5}, cyclePlan{rounds: 1, slots: 2}),
	} {
		for _, x := range placesAround(m) {
			further := withEntryFor(m, x.Mode, x.Round, x.Slot)
			expectFaults(t, further, 5)
			for _, y := range m.Slots {
				index := indexOf(further, y.Mode, y.Round, y.Slot)
				expectFault(t, changed(further, func(m *impl.Medl) { m.Slots = slices.Delete(m.Slots, index, index+1) }), 5)
			}
		}
	}
}

// Rule 5: all small numbers of rounds and slots are tried with entries that are those of others.
func TestRuleOfEntriesOfOtherCycles(t *testing.T) {
	var list []impl.Medl
	for rounds := int64(1); rounds <= 4; rounds++ {
		for slots := int64(1); slots <= 4; slots++ {
			list = append(list, plannedMedl(1, 0, uint64(rounds*4+slots)+3440, cyclePlan{rounds: rounds, slots: slots}))
			list = append(list, plannedMedl(1, 0, uint64(rounds*4+slots)+3460, cyclePlan{rounds: rounds, slots: slots}, cyclePlan{rounds: slots, slots: rounds}))
		}
	}
	for _, m := range list {
		for _, other := range list {
			want := int64(5)
			if sameCycles(m, other) {
				want = 0
			}
			mixed := impl.Medl{Id: 5, Nodes: m.Nodes, Modes: other.Modes, Slots: m.Slots}
			expectFault(t, mixed, want)
			if got := firstByReference(mixed); got != want {
				t.Errorf("%s breaks the rule %d first", nameOfMedl(mixed), got)
			}
		}
	}
}

// sameCycles reports whether two schedules have as many modes with the same Rounds and Slots.
func sameCycles(a impl.Medl, b impl.Medl) bool {
	return slices.EqualFunc(a.Modes, b.Modes, func(x impl.ModeInfo, y impl.ModeInfo) bool { return x.Rounds == y.Rounds && x.Slots == y.Slots })
}

// Rule 6: in the modes 0 and 1 each node sends twice, so it is the only rule that one wrong sender breaks there.
func TestRuleOfSenders(t *testing.T) {
	m := slackMedl()
	for index, x := range m.Slots {
		for node := range int64(32) {
			other := changed(m, func(m *impl.Medl) { m.Slots[index].Desc.Node = node })
			switch {
			case x.Mode < 2 && isActive(m, node), node == x.Desc.Node:
				expectFaults(t, other)
			case x.Mode < 2:
				expectFaults(t, other, 6)
			case isActive(m, node):
				expectFaults(t, other, 9)
			default:
				expectFaults(t, other, 6, 9)
			}
		}
	}
	for _, m := range someMedls() {
		for index, x := range m.Nodes {
			passive := changed(m, func(m *impl.Medl) { m.Nodes[index].Passive = true })
			removed := changed(m, func(m *impl.Medl) { m.Nodes = slices.Delete(m.Nodes, index, index+1) })
			if x.Passive {
				expectFault(t, passive, 0)
				expectFault(t, removed, 0)
				continue
			}
			expectFaults(t, passive, 6)
			if len(m.Nodes) > 1 {
				expectFaults(t, removed, 6)
			} else {
				expectFaults(t, removed, 2, 6)
			}
		}
		expectFaults(t, changed(m, func(m *impl.Medl) {
			for i := range m.Nodes {
				m.Nodes[i].Passive = true
			}
		}), 6)
	}
}

// Rule 7: a Duration that differs by 1 in one round alone, whichever slot and round it is.
func TestRuleOfDurations(t *testing.T) {
	for _, m := range append(someMedls(), plannedMedl(3, 1, 3480, cyclePlan{8, 5, 2500}, cyclePlan{8, 6, 2000}), plannedMedl(3, 1, 3481, cyclePlan{2, 3, 500}, cyclePlan{7, 4, 3000}, cyclePlan{2, 6, 2000})) {
		for index, x := range m.Slots {
			for _, step := range []int64{-1, 1} {
				other := changed(m, func(m *impl.Medl) { m.Slots[index].Desc.Duration += step })
				_, cycle := timesByReference(m, x.Mode)
				switch {
				case !isDescriptorByReference(other.Slots[index].Desc):
					expectFault(t, other, 4)
				case m.Modes[x.Mode].Rounds > 1:
					expectFault(t, other, 7)
				default:
					expectFaults(t, other)
				}
				if len(faultsByReference(other)) > 1 && cycle+step <= 32000 && isDescriptorByReference(other.Slots[index].Desc) {
					t.Errorf("%s breaks more than one rule", nameOfMedl(other))
				}
			}
		}
	}
}

// Rule 7: Durations of two slots of one round that are exchanged have the same sum, and two rounds may be equal and differ
// from a third one.
func TestRuleOfExchangedDurations(t *testing.T) {
	m := slackMedl()
	for round := range int64(2) {
		for slot := range int64(5) {
			expectFaults(t, changed(m, func(m *impl.Medl) {
				a, b := descriptorOf(m, 1, round, slot), descriptorOf(m, 1, round, slot+1)
				a.Duration, b.Duration = b.Duration, a.Duration
			}), 7)
			expectFaults(t, changed(m, func(m *impl.Medl) {
				for both := range int64(2) {
					a, b := descriptorOf(m, 1, both, slot), descriptorOf(m, 1, both, slot+1)
					a.Duration, b.Duration = b.Duration, a.Duration
				}
			}))
		}
	}
	for choice := range int64(256) {
		eight := plannedMedl(1, 0, 3485, cyclePlan{8, 2, 500})
		for round := range int64(8) {
			descriptorOf(&eight, 0, round, 1).Duration += choice >> round & 1
		}
		if choice == 0 || choice == 255 {
			expectFaults(t, eight)
		} else {
			expectFaults(t, eight, 7)
		}
	}
}

// Rule 8: a cycle time that is too great by 1, which only cycles of three rounds can have, in the first mode, the last one and
// each of several.
func TestRuleOfCycleTimes(t *testing.T) {
	for slots := int64(11); slots <= 16; slots++ {
		long, short := cyclePlan{3, slots, 10667}, cyclePlan{2, 6, 700}
		for i, cycles := range [][]cyclePlan{{long}, {long, short}, {short, long}, {short, long, short}, {long, short, short}, {short, short, long}, {long, long}} {
			m := plannedMedl(4, 2, uint64(slots)*8+uint64(i)+3490, cycles...)
			expectFaults(t, m, 8)
			// One cell less in each round makes them well-formed.
			expectFaults(t, changed(m, func(m *impl.Medl) {
				for k, x := range m.Slots {
					if m.Modes[x.Mode].Rounds == 3 && x.Slot == 0 {
						m.Slots[k].Desc.Duration--
					}
				}
			}))
		}
	}
}

// Rule 8: cycles of all Rounds and Slots that can be too long are tried with the greatest round time that is allowed, and
// with one more.
func TestRuleOfCycleTimesOfAllCycles(t *testing.T) {
	for rounds := int64(2); rounds <= 8; rounds++ {
		for slots := int64(1); slots <= 16 && rounds*slots <= 120; slots++ {
			most := 32000 / rounds
			if most >= slots*1000 {
				expectFaults(t, plannedMedl(1, 0, uint64(slots)+3600, cyclePlan{rounds, slots, slots * 1000}))
				continue
			}
			expectFaults(t, plannedMedl(1, 0, uint64(slots)+3620, cyclePlan{rounds, slots, most}))
			expectFaults(t, plannedMedl(1, 0, uint64(slots)+3640, cyclePlan{rounds, slots, most + 1}), 8)
			expectFaults(t, plannedMedl(1, 0, uint64(slots)+3660, cyclePlan{rounds, slots, slots * 1000}), 8)
		}
	}
}

// Rule 9: in the last mode each node sends once in each round, and in the others twice.
func TestRuleOfSilentNodes(t *testing.T) {
	m := slackMedl()
	for mode, x := range m.Modes {
		for round := range x.Rounds {
			for _, silent := range []int64{0, 3, 9} {
				for _, other := range []int64{0, 3, 9} {
					if other != silent {
						expectFaults(t, changed(m, func(m *impl.Medl) {
							for slot := range x.Slots {
								if d := descriptorOf(m, int64(mode), round, slot); d.Node == silent {
									d.Node = other
								}
							}
						}), 9)
					}
				}
			}
		}
	}
}

// Rule 9: a node that sends twice in one round makes no good for another one, and a node that sends in no round is told.
func TestRuleOfNodesThatSendTwice(t *testing.T) {
	for _, mode := range []int64{0, 1} {
		two := plannedMedl(1, 0, 3700, cyclePlan{2, 2, 200}, cyclePlan{3, 2, 300})
		first, second := two.Nodes[0].Id, (two.Nodes[0].Id+7)%32
		two.Nodes = append(two.Nodes, impl.NodeInfo{Id: second, Name: "second"})
		slices.SortFunc(two.Nodes, func(a impl.NodeInfo, b impl.NodeInfo) int { return int(a.Id - b.Id) })
		expectFaults(t, two, 9)
		for i, x := range two.Slots {
			two.Slots[i].Desc.Node = []int64{first, second}[x.Slot]
		}
		expectFaults(t, two)
		for round := range two.Modes[mode].Rounds {
			expectFaults(t, changed(two, func(m *impl.Medl) { descriptorOf(m, mode, round, 0).Node = second }), 9)
			expectFaults(t, changed(two, func(m *impl.Medl) {
				descriptorOf(m, mode, round, 0).Node = second
				descriptorOf(m, mode, (round+1)%two.Modes[mode].Rounds, 1).Node = first
			}), 9)
		}
	}
	for _, m := range someMedls() {
		for index, x := range m.Nodes {
			if x.Passive {
				expectFaults(t, changed(m, func(m *impl.Medl) { m.Nodes[index].Passive = false }), 9)
			}
		}
	}
}

// Rule 10: each entry is tried with this kind.
func TestRuleOfColdFrames(t *testing.T) {
	for _, m := range someMedls() {
		for index, x := range m.Slots {
			other := changed(m, func(m *impl.Medl) {
				d := &m.Slots[index].Desc
				d.Kind, d.Size, d.Change = impl.FrameCold, 0, false
			})
			switch {
			case x.Desc.Duration < 151:
				expectFault(t, other, 4)
			case x.Mode == 0:
				expectFaults(t, other)
			default:
				expectFaults(t, other, 10)
			}
		}
	}
	allCold := changed(slackMedl(), func(m *impl.Medl) {
		for i := range m.Slots {
			m.Slots[i].Desc.Kind, m.Slots[i].Desc.Size, m.Slots[i].Desc.Change = impl.FrameCold, 0, false
		}
	})
	expectFaults(t, allCold, 10)
}

// breakers returns, for each rule, a change of slackMedl that breaks this rule alone. Each changes another part of the
// schedule, so any of them together break as many rules.
func breakers() []func(m *impl.Medl) {
	return []func(m *impl.Medl){
		func(m *impl.Medl) { m.Id = 16777216 },
		func(m *impl.Medl) { m.Nodes[2].Drift = 1001 },
		func(m *impl.Medl) { m.Modes[2].Next = []int64{2} },
		func(m *impl.Medl) { descriptorOf(m, 1, 0, 5).Size = -1 },
		func(m *impl.Medl) {
			d := impl.Descriptor{Node: 3, Kind: impl.FrameNormal, Duration: 81}
			m.Slots = append(m.Slots, impl.SlotInfo{Mode: 3, Desc: d})
		},
		func(m *impl.Medl) { descriptorOf(m, 1, 1, 2).Node = 5 },
		func(m *impl.Medl) { descriptorOf(m, 2, 1, 0).Duration++ },
		func(m *impl.Medl) {
			for round := range int64(3) {
				descriptorOf(m, 0, round, 11).Duration++
			}
		},
		func(m *impl.Medl) { descriptorOf(m, 2, 0, 1).Node = 0 },
		func(m *impl.Medl) { descriptorOf(m, 1, 1, 0).Kind, descriptorOf(m, 1, 1, 0).Size = impl.FrameCold, 0 },
	}
}

// Of any rules that are broken at once FirstFault returns the one with the smallest number.
func TestFirstFaultOfAllSetsOfRules(t *testing.T) {
	for set := range 1 << 10 {
		m := slackMedl()
		var broken []int64
		for i, change := range breakers() {
			if set>>i&1 == 1 {
				change(&m)
				broken = append(broken, int64(i+1))
			}
		}
		expectFaults(t, m, broken...)
		if len(broken) > 0 {
			expectErrInvalid(t, m)
		}
	}
}

// expectErrInvalid fails the test if a function does not say first that a schedule is not well-formed, whatever else it is
// called with.
func expectErrInvalid(t *testing.T, m impl.Medl) {
	t.Helper()
	for _, mode := range []int64{0, 1, -1, 16, least, greatest} {
		expectCycleTime(t, m, mode, 0, impl.ErrInvalid)
		expectRoundTime(t, m, mode, 0, impl.ErrInvalid)
		expectSender(t, m, mode, mode, mode, 0, impl.ErrInvalid)
		expectSender(t, m, 0, 0, mode, 0, impl.ErrInvalid)
	}
	for _, id := range []int64{1, 0, 16777215, 16777216, m.Id, least, greatest} {
		expectWithId(t, m, id, impl.Medl{}, impl.ErrInvalid)
	}
}

// The errors come in their order: a schedule that is not well-formed is told before a mode, a slot or a number that is none.
func TestMedlErrors(t *testing.T) {
	lists := [][]impl.Medl{{{}, {Id: 1}, {Id: 1, Nodes: []impl.NodeInfo{}, Modes: []impl.ModeInfo{}, Slots: []impl.SlotInfo{}}}}
	for i, change := range breakers() {
		lists = append(lists, []impl.Medl{changed(slackMedl(), change)})
		m := someMedls()[i%len(someMedls())]
		lists = append(lists, []impl.Medl{{Id: m.Id}, {Id: m.Id, Nodes: m.Nodes}, {Id: m.Id, Nodes: m.Nodes, Modes: m.Modes}, {Nodes: m.Nodes, Modes: m.Modes, Slots: m.Slots}})
		lists = append(lists, []impl.Medl{{Id: m.Id, Modes: m.Modes, Slots: m.Slots}, {Id: m.Id, Nodes: m.Nodes, Slots: m.Slots}})
	}
	for _, m := range slices.Concat(lists...) {
		if checkFault(t, m) == 0 {
			t.Errorf("%s is well-formed", nameOfMedl(m))
		}
		expectErrInvalid(t, m)
	}
	for _, m := range medlsWithWrongTables() {
		expectErrInvalid(t, m)
	}
}

// medlsWithWrongTables returns schedules that are well-formed but for one list that is no table.
func medlsWithWrongTables() []impl.Medl {
	var list []impl.Medl
	for i, table := range notNodeTables() {
		m := someMedls()[i%len(someMedls())]
		m.Nodes = table
		list = append(list, m)
	}
	for i, table := range notModeTables() {
		m := someMedls()[i%len(someMedls())]
		m.Modes = table
		list = append(list, m)
	}
	for i, table := range notSlotTables() {
		if i%3 == 0 {
			m := someMedls()[i%len(someMedls())]
			m.Slots = table
			list = append(list, m)
		}
	}
	return list
}

// A mode that is none is ErrRange for the times and ErrNotFound for a sender.
func TestErrorsOfModes(t *testing.T) {
	for _, m := range someMedls() {
		for _, mode := range notModes(len(m.Modes)) {
			expectCycleTime(t, m, mode, 0, impl.ErrRange)
			expectRoundTime(t, m, mode, 0, impl.ErrRange)
			expectSender(t, m, mode, 0, 0, 0, impl.ErrNotFound)
		}
		for mode := range m.Modes {
			if code := codeOfTimes(m, int64(mode)); code != impl.ErrNone {
				t.Errorf("%s has no times of the mode %d: code %d", nameOfMedl(m), mode, code)
			}
		}
	}
}

// codeOfTimes returns the first code of the times of a mode that is not ErrNone.
func codeOfTimes(m impl.Medl, mode int64) int64 {
	if _, code := impl.CycleTime(m, mode); code != impl.ErrNone {
		return code
	}
	_, code := impl.RoundTime(m, mode)
	return code
}

// changeOne changes a drawn element of a list, if it has any.
func changeOne[T any](list []T, draw func(limit int) int, change func(x *T)) {
	if len(list) > 0 {
		change(&list[draw(len(list))])
	}
}

// drawnStep returns 1 or -1.
func drawnStep(draw func(limit int) int) int64 { return int64(draw(2))*2 - 1 }

// smallChanges returns changes of a schedule by as little as there is, at places that are drawn. Some of them do nothing where
// there is no such place.
func smallChanges(draw func(limit int) int) []func(m *impl.Medl) {
	return slices.Concat(changesOfNodes(draw), changesOfModes(draw), changesOfEntries(draw), changesOfSlots(draw))
}

// changesOfNodes returns small changes of Id and Nodes.
func changesOfNodes(draw func(limit int) int) []func(m *impl.Medl) {
	return []func(m *impl.Medl){
		func(m *impl.Medl) { m.Id = []int64{0, 1, 16777215, 16777216}[draw(4)] },
		func(m *impl.Medl) { changeOne(m.Nodes, draw, func(x *impl.NodeInfo) { x.Passive = !x.Passive }) },
		func(m *impl.Medl) { changeOne(m.Nodes, draw, func(x *impl.NodeInfo) { x.Id += drawnStep(draw) }) },
		func(m *impl.Medl) {
			changeOne(m.Nodes, draw, func(x *impl.NodeInfo) { x.Drift = 1000 + int64(draw(2)) })
		},
		func(m *impl.Medl) { m.Nodes = m.Nodes[:max(0, len(m.Nodes)-1)] },
		func(m *impl.Medl) {
			m.Nodes = append(m.Nodes, impl.NodeInfo{Id: 31, Name: "last", Passive: draw(2) == 1})
		},
	}
}

// changesOfModes returns small changes of Modes.
func changesOfModes(draw func(limit int) int) []func(m *impl.Medl) {
	return []func(m *impl.Medl){
		func(m *impl.Medl) { changeOne(m.Modes, draw, func(x *impl.ModeInfo) { x.Rounds += drawnStep(draw) }) },
		func(m *impl.Medl) { changeOne(m.Modes, draw, func(x *impl.ModeInfo) { x.Slots += drawnStep(draw) }) },
		func(m *impl.Medl) {
			changeOne(m.Modes, draw, func(x *impl.ModeInfo) { x.Next = []int64{int64(draw(3))} })
		},
		func(m *impl.Medl) {
			changeOne(m.Modes, draw, func(x *impl.ModeInfo) { x.Rounds, x.Slots = x.Slots, x.Rounds })
		},
		func(m *impl.Medl) { m.Modes = append(m.Modes, impl.ModeInfo{Rounds: 1, Slots: 1}) },
		func(m *impl.Medl) { m.Modes = m.Modes[:max(0, len(m.Modes)-1)] },
	}
}

// changesOfEntries returns small changes of an entry of Slots.
func changesOfEntries(draw func(limit int) int) []func(m *impl.Medl) {
	var list []func(m *impl.Medl)
	for _, change := range []func(x *impl.SlotInfo){
		func(x *impl.SlotInfo) { x.Mode += drawnStep(draw) },
		func(x *impl.SlotInfo) { x.Round += drawnStep(draw) },
		func(x *impl.SlotInfo) { x.Slot += drawnStep(draw) },
		func(x *impl.SlotInfo) { x.Desc.Node += drawnStep(draw) },
		func(x *impl.SlotInfo) { x.Desc.Duration += drawnStep(draw) },
		func(x *impl.SlotInfo) { x.Desc.Duration = 1000 + int64(draw(2)) },
		func(x *impl.SlotInfo) { x.Desc.Kind, x.Desc.Size, x.Desc.Change = impl.FrameCold, 0, false },
	} {
		list = append(list, func(m *impl.Medl) { changeOne(m.Slots, draw, change) })
	}
	return list
}

// changesOfSlots returns small changes of Slots that are not those of one entry.
func changesOfSlots(draw func(limit int) int) []func(m *impl.Medl) {
	return []func(m *impl.Medl){
		func(m *impl.Medl) {
			index := draw(len(m.Slots) + 1)
			m.Slots = slices.Delete(m.Slots, index, min(index+1, len(m.Slots)))
		},
		func(m *impl.Medl) {
			changeOne(m.Slots, draw, func(x *impl.SlotInfo) { x.Desc.Node = m.Slots[draw(len(m.Slots))].Desc.Node })
		},
		func(m *impl.Medl) {
			// The slot 0 of all modes and rounds takes longer.
			for i, x := range m.Slots {
				if x.Slot == 0 {
					m.Slots[i].Desc.Duration = min(1000, x.Desc.Duration+1)
				}
			}
		},
		func(m *impl.Medl) {
			x := impl.SlotInfo{Mode: int64(draw(3)), Round: int64(draw(8)), Slot: int64(draw(16)), Desc: slotDescriptors()[draw(len(slotDescriptors()))]}
			m.Slots = sortedSlots(append(m.Slots, x))
		},
	}
}

// Well-formed schedules with one to three small changes are compared with the reference.
func TestFirstFaultOfManyChanges(t *testing.T) {
	met := map[int64]int{}
	bases := slices.Concat(someMedls(), longestMedls(), singleModeMedls()[:60], severalModesMedls()[:40])
	numbers := mixed(400000, 1<<30, 3800)
	next := 0
	draw := func(limit int) int {
		next++
		return int(numbers[next%len(numbers)]) % limit
	}
	for range 60 {
		for _, base := range bases {
			m := copiedMedl(base)
			changes := smallChanges(draw)
			for range 1 + draw(3) {
				changes[draw(len(changes))](&m)
			}
			met[checkFault(t, m)]++
		}
	}
	for fault := range int64(11) {
		if met[fault] < 50 {
			t.Errorf("the fault %d was met %d times", fault, met[fault])
		}
	}
}

// Each small change is tried with each of some schedules.
func TestFirstFaultOfEachSmallChange(t *testing.T) {
	for seed, base := range someMedls() {
		numbers := mixed(4096, 1<<30, uint64(seed)+3810)
		next := 0
		draw := func(limit int) int {
			next++
			return int(numbers[next%len(numbers)]) % limit
		}
		for _, change := range slices.Repeat(smallChanges(draw), 3) {
			checkFault(t, changed(base, change))
		}
	}
}

// The same call answers the same each time, in whatever order a map is gone through.
func TestMedlsAnswerTheSame(t *testing.T) {
	for set, want := range map[int]int64{0: 0, 1: 1, 0b1100000010: 2, 0b1000000100: 3, 0b1111111000: 4, 0b1010110000: 5, 0b1100100000: 6, 0b1111000000: 7, 0b1010000000: 8, 0b1100000000: 9, 0b1000000000: 10, 0b1111111111: 1} {
		m := slackMedl()
		for i, change := range breakers() {
			if set>>i&1 == 1 {
				change(&m)
			}
		}
		for range 100 {
			expectFault(t, m, want)
		}
	}
	m := slackMedl()
	for range 100 {
		expectCycleTime(t, m, 1, 2430, impl.ErrNone)
		expectRoundTime(t, m, 1, 1215, impl.ErrNone)
		expectSender(t, m, 1, 1, 1, 9, impl.ErrNone)
		expectWithId(t, m, 16777215, m, impl.ErrNone)
	}
}

// guardedMedl is a copy of a schedule whose tables, and the Next of each mode, stand between marks.
type guardedMedl struct {
	m         impl.Medl
	modes     guardedModes
	nodes     []impl.NodeInfo
	slots     []impl.SlotInfo
	wantNodes []impl.NodeInfo
	wantSlots []impl.SlotInfo
}

func guardMedl(m impl.Medl) guardedMedl {
	var g guardedMedl
	g.modes = guardModes(m.Modes)
	g.m = impl.Medl{Id: m.Id, Modes: g.modes.table}
	g.m.Nodes, g.nodes = guardTable(m.Nodes, markedEntry)
	g.m.Slots, g.slots = guardTable(m.Slots, markedSlot)
	g.wantNodes, g.wantSlots = slices.Clone(g.nodes), slices.Clone(g.slots)
	return g
}

// expectUntouched fails the test if a part of the schedule or the memory around it has been changed.
func (g guardedMedl) expectUntouched(t *testing.T, what string) {
	t.Helper()
	g.modes.expectUntouched(t, what)
	if !slices.Equal(g.nodes, g.wantNodes) || !slices.Equal(g.slots, g.wantSlots) {
		t.Errorf("%s changed the schedule %s or the memory around it", what, nameOfMedl(g.m))
	}
}

// overwrite writes marks to all parts of the schedule.
func (g guardedMedl) overwrite() {
	for _, next := range g.modes.next {
		fill(next.array, mark)
	}
	fillAll(g.modes.array, markedMode)
	fillAll(g.nodes, markedEntry)
	fillAll(g.slots, markedSlot)
}

// medlsOfMemory are schedules for which the functions succeed and fail in different ways.
func medlsOfMemory() []impl.Medl {
	list := append(someMedls(), impl.Medl{}, impl.Medl{Id: 1, Nodes: []impl.NodeInfo{}, Modes: []impl.ModeInfo{}, Slots: []impl.SlotInfo{}}, impl.Medl{Id: 1, Nodes: []impl.NodeInfo{{}}, Modes: []impl.ModeInfo{{}}, Slots: []impl.SlotInfo{{}}})
	for _, change := range breakers() {
		list = append(list, changed(slackMedl(), change))
	}
	// Next of one mode is empty, and that of two modes is the same memory.
	next := []int64{0, 1, 2}[:1]
	one := impl.Descriptor{Node: 4, Kind: impl.FrameNormal, Duration: 90}
	shared := impl.Medl{Id: 3, Nodes: []impl.NodeInfo{{Id: 4, Name: "x"}}, Slots: []impl.SlotInfo{{Desc: one}, {Mode: 1, Desc: one}, {Mode: 2, Desc: one}}}
	shared.Modes = []impl.ModeInfo{{Rounds: 1, Slots: 1, Next: []int64{}}, {Rounds: 1, Slots: 1, Next: next}, {Rounds: 1, Slots: 1, Next: next}}
	return append(list, shared)
}

func TestMedlsLeaveMemoryAlone(t *testing.T) {
	for _, m := range medlsOfMemory() {
		calls := map[string]func(m impl.Medl) []int64{
			"FirstFault": func(m impl.Medl) []int64 { return []int64{impl.FirstFault(m)} },
			"IsMedl":     func(m impl.Medl) []int64 { return truth(impl.IsMedl(m)) },
		}
		for _, mode := range []int64{-1, 0, int64(len(m.Modes)) - 1, int64(len(m.Modes))} {
			calls[fmt.Sprintf("CycleTime %d", mode)] = func(m impl.Medl) []int64 { got, code := impl.CycleTime(m, mode); return []int64{got, code} }
			calls[fmt.Sprintf("RoundTime %d", mode)] = func(m impl.Medl) []int64 { got, code := impl.RoundTime(m, mode); return []int64{got, code} }
			calls[fmt.Sprintf("SenderOf %d", mode)] = func(m impl.Medl) []int64 { got, code := impl.SenderOf(m, mode, 0, 0); return []int64{got, code} }
		}
		for name, call := range calls {
			g := guardMedl(m)
			first, second := call(g.m), call(g.m)
			if !slices.Equal(first, second) {
				t.Errorf("%s %s: a second call returned another result", name, nameOfMedl(m))
			}
			g.expectUntouched(t, name)
		}
	}
}

func TestWithIdLeavesMemoryAlone(t *testing.T) {
	for _, m := range medlsOfMemory() {
		for _, id := range []int64{0, 1, m.Id, 16777215, 16777216} {
			name := fmt.Sprintf("WithId %d", id)
			g := guardMedl(m)
			want, wantCode := impl.Medl{}, int64(impl.ErrNone)
			switch {
			case firstByReference(m) != 0:
				wantCode = impl.ErrInvalid
			case id < 1 || id > 16777215:
				wantCode = impl.ErrRange
			default:
				want = changed(m, func(m *impl.Medl) { m.Id = id })
			}
			expectWithId(t, g.m, id, want, wantCode)
			first, _ := impl.WithId(g.m, id)
			second, _ := impl.WithId(g.m, id)
			g.expectUntouched(t, name)
			overwriteMedl(t, name, second, want)
			g.expectUntouched(t, name+": writing to the result")
			if !sameMedls(first, want) {
				t.Errorf("%s: two results share memory", name)
			}
			g.overwrite()
			if !sameMedls(first, want) {
				t.Errorf("%s: the result shares memory with the schedule", name)
			}
		}
	}
}

// What is written into a schedule that WithId returns changes no other one, also if that was made of it.
func TestMedlsKeepNothing(t *testing.T) {
	for _, m := range someMedls() {
		one, _ := impl.WithId(m, 1)
		two, _ := impl.WithId(one, 2)
		three, _ := impl.WithId(two, m.Id)
		overwriteMedl(t, "WithId", two, changed(m, func(m *impl.Medl) { m.Id = 2 }))
		overwriteMedl(t, "WithId", one, changed(m, func(m *impl.Medl) { m.Id = 1 }))
		if !sameMedls(three, m) {
			t.Errorf("%s has become %s", nameOfMedl(m), nameOfMedl(three))
		}
		expectFault(t, m, 0)
	}
}

// Strings, which nothing changes, are the same in the result.
func TestWithIdKeepsNames(t *testing.T) {
	m := changed(knownMedl(), func(m *impl.Medl) { m.Nodes[1].Name = strings.Repeat("z", 6) })
	got, code := impl.WithId(m, 9)
	expectNumber(t, "Id", got.Id, code, 9, impl.ErrNone)
	if len(got.Nodes) != 2 || got.Nodes[0].Name != "a" || got.Nodes[1].Name != "zzzzzz" {
		t.Errorf("Nodes are %v", got.Nodes)
	}
}
