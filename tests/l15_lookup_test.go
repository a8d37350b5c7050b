package tests

import (
	"slices"
	"sync"
	"testing"

	"loop.example/g00833/impl"
)

// timedSlot is a slot of a cycle, its start, and what is sent in it.
type timedSlot struct {
	round, slot, start int64
	desc               impl.Descriptor
}

// timetable is what the tests know of a well-formed schedule. Neither it nor its methods use the program.
type timetable struct {
	m      impl.Medl
	active []int64
	cycles [][]timedSlot
}

func timetableOf(m impl.Medl) timetable {
	x := timetable{m: m}
	for _, node := range m.Nodes {
		if !node.Passive {
			x.active = append(x.active, node.Id)
		}
	}
	for mode, y := range m.Modes {
		var cycle []timedSlot
		start := int64(0)
		for round := range y.Rounds {
			for slot := range y.Slots {
				entry, _ := entryOf(m, int64(mode), round, slot)
				cycle = append(cycle, timedSlot{round, slot, start, entry.Desc})
				start += entry.Desc.Duration
			}
		}
		x.cycles = append(x.cycles, cycle)
	}
	return x
}

func timetablesOf(list []impl.Medl) []timetable {
	var tables []timetable
	for _, m := range list {
		tables = append(tables, timetableOf(m))
	}
	return slices.Clip(tables)
}

// someTimetables and manyTimetables are those of the schedules with these names, and of some whose modes may be changed to
// none or to all others.
var (
	someTimetables = sync.OnceValue(func() []timetable {
		return timetablesOf(append(someMedls(), smallestMedl(), largestMedl(), oneNodeMedl(), changingMedls()[33], changingMedls()[52], changingMedls()[95]))
	})
	manyTimetables = sync.OnceValue(func() []timetable {
		return slices.Clip(append(timetablesOf(slices.Concat(manyMedls(), changingMedls())), someTimetables()...))
	})
)

// oneNodeMedl is a schedule of one node, which sends in all slots of two modes.
func oneNodeMedl() impl.Medl {
	return plannedMedl(1, 0, 7000, cyclePlan{rounds: 5, slots: 8}, cyclePlan{rounds: 1, slots: 16})
}

// cycleTime returns the cycle time of a mode.
func (x timetable) cycleTime(mode int64) int64 {
	_, time := timesByReference(x.m, mode)
	return time
}

// belongs reports whether a state belongs to the schedule.
func (x timetable) belongs(s impl.State) bool {
	if s.Time < 0 || s.Time > 65535 || s.Members < 0 || s.Members > allMembers {
		return false
	}
	if !hasModeSlot(x.m, impl.SlotInfo{Mode: s.Mode, Round: s.Round, Slot: s.Slot}) {
		return false
	}
	for _, node := range membersByReference(s.Members) {
		if !slices.Contains(x.active, node) {
			return false
		}
	}
	return true
}

// indexIn returns the index of the slot of a state in its cycle.
func (x timetable) indexIn(s impl.State) int {
	return slices.IndexFunc(x.cycles[s.Mode], func(y timedSlot) bool { return y.round == s.Round && y.slot == s.Slot })
}

// statesFrom returns a state and those after it, one for each slot of its cycle, so the last one is at the same place again.
func (x timetable) statesFrom(s impl.State) []impl.State {
	cycle, index := x.cycles[s.Mode], x.indexIn(s)
	list := []impl.State{s}
	for range cycle {
		s.Time = (s.Time + cycle[index].desc.Duration) % 65536
		index = (index + 1) % len(cycle)
		s.Round, s.Slot = cycle[index].round, cycle[index].slot
		list = append(list, s)
	}
	return list
}

// slotAt returns what SlotAt returns of a mode.
func (x timetable) slotAt(mode int64, time int64) (int64, int64, int64) {
	for _, y := range x.cycles[mode] {
		if time >= y.start && time-y.start < y.desc.Duration {
			return y.round, y.slot, impl.ErrNone
		}
	}
	return 0, 0, impl.ErrNotFound
}

// sendTimes returns the starts of the slots in which a node sends.
func (x timetable) sendTimes(mode int64, node int64) []int64 {
	var times []int64
	for _, y := range x.cycles[mode] {
		if y.desc.Node == node {
			times = append(times, y.start)
		}
	}
	return times
}

// changed returns what ChangeMode returns of a state that belongs to the schedule.
func (x timetable) changed(s impl.State, to int64) (impl.State, int64) {
	if !slices.Contains(x.m.Modes[s.Mode].Next, to) {
		return impl.State{}, impl.ErrState
	}
	rest := x.cycleTime(s.Mode) - x.cycles[s.Mode][x.indexIn(s)].start
	return impl.State{Time: (s.Time + rest) % 65536, Mode: to, Members: s.Members}, impl.ErrNone
}

// membersIn returns vectors of none, some and all nodes that are not passive.
func (x timetable) membersIn(seed uint64) []int64 {
	all := vectorByReference(x.active)
	chosen := shuffled(x.active, seed)[:(len(x.active)+1)/2]
	return []int64{0, all, vectorByReference(chosen), vectorByReference(x.active[:1]), all - vectorByReference(x.active[len(x.active)-1:])}
}

// timesAround returns Times that begin again at 0 within a cycle, just before it, at its end and not in it. The index is that
// of the slot with which the cycle begins.
func (x timetable) timesAround(mode int64, index int, seed uint64) []int64 {
	cycle, duration := x.cycleTime(mode), x.cycles[mode][index].desc.Duration
	return []int64{0, 65535, 65536 - duration, 65535 - duration, 65536 - cycle, 65535 - cycle, 65537 - cycle, 65536 - cycle/2, mixed(1, 65536, seed)[0]}
}

// drawnState returns a state that belongs to the schedule, in a slot of a cycle, with a Time and Members that are drawn.
func (x timetable) drawnState(mode int64, index int, seed uint64) impl.State {
	y := x.cycles[mode][index]
	times, members := x.timesAround(mode, index, seed), x.membersIn(seed+1)
	choice := mixed(2, 1<<30, seed+2)
	time, member := times[int(choice[0])%len(times)], members[int(choice[1])%len(members)]
	return impl.State{Time: time, Mode: mode, Round: y.round, Slot: y.slot, Members: member}
}

// everyState calls a function with a drawn state for each slot of each mode.
func (x timetable) everyState(seed uint64, visit func(s impl.State)) {
	for mode, cycle := range x.cycles {
		for index := range cycle {
			visit(x.drawnState(int64(mode), index, seed+uint64(mode*1000+index)*13))
		}
	}
}

// edgeStates returns states in the first, a middle and the last slot of the first and the last mode.
func (x timetable) edgeStates(seed uint64) []impl.State {
	var list []impl.State
	for _, mode := range []int{0, len(x.cycles) - 1} {
		size := len(x.cycles[mode])
		for _, index := range []int{0, size / 2, size - 1} {
			list = append(list, x.drawnState(int64(mode), index, seed+uint64(index)))
		}
	}
	return list
}

// expectBelongs fails the test if BelongsTo does not say this. It is called so often that the call is named only in a failure,
// as are those below.
func expectBelongs(t *testing.T, m impl.Medl, s impl.State, want bool) {
	t.Helper()
	if got := impl.BelongsTo(m, s); got != want {
		t.Errorf("BelongsTo %s %d is %v", nameOfMedl(m), s, got)
	}
}

func expectDescriptorFor(t *testing.T, m impl.Medl, s impl.State, want impl.Descriptor, wantCode int64) {
	t.Helper()
	if got, code := impl.DescriptorFor(m, s); got != want || code != wantCode {
		t.Errorf("DescriptorFor %s %d: %v, code %d, want %v, code %d", nameOfMedl(m), s, got, code, want, wantCode)
	}
}

func expectNextState(t *testing.T, m impl.Medl, s impl.State, want impl.State, wantCode int64) {
	t.Helper()
	if got, code := impl.NextStateOf(m, s); got != want || code != wantCode {
		t.Errorf("NextStateOf %s %d: %d, code %d, want %d, code %d", nameOfMedl(m), s, got, code, want, wantCode)
	}
}

func expectSlotStart(t *testing.T, m impl.Medl, s impl.State, want int64, wantCode int64) {
	t.Helper()
	if got, code := impl.SlotStart(m, s); got != want || code != wantCode {
		t.Errorf("SlotStart %s %d: %d, code %d, want %d, code %d", nameOfMedl(m), s, got, code, want, wantCode)
	}
}

func expectSlotAt(t *testing.T, m impl.Medl, mode int64, time int64, wantRound int64, wantSlot int64, wantCode int64) {
	t.Helper()
	if round, slot, code := impl.SlotAt(m, mode, time); round != wantRound || slot != wantSlot || code != wantCode {
		t.Errorf("SlotAt %s %d %d: %d %d, code %d, want %d %d, code %d", nameOfMedl(m), mode, time, round, slot, code, wantRound, wantSlot, wantCode)
	}
}

func expectSendTimes(t *testing.T, m impl.Medl, mode int64, node int64, want []int64, wantCode int64) {
	t.Helper()
	if got, code := impl.SendTimes(m, mode, node); !slices.Equal(got, want) || code != wantCode {
		t.Errorf("SendTimes %s %d %d: %v, code %d, want %v, code %d", nameOfMedl(m), mode, node, got, code, want, wantCode)
	}
}

func expectChangedMode(t *testing.T, m impl.Medl, s impl.State, to int64, want impl.State, wantCode int64) {
	t.Helper()
	if got, code := impl.ChangeMode(m, s, to); got != want || code != wantCode {
		t.Errorf("ChangeMode %s %d %d: %d, code %d, want %d, code %d", nameOfMedl(m), s, to, got, code, want, wantCode)
	}
}

func expectStatesOfCycle(t *testing.T, m impl.Medl, s impl.State, want []impl.State, wantCode int64) {
	t.Helper()
	if got, code := impl.StatesOfCycle(m, s); !slices.Equal(got, want) || code != wantCode {
		t.Errorf("StatesOfCycle %s %d: %d, code %d, want %d, code %d", nameOfMedl(m), s, got, code, want, wantCode)
	}
}

// expectStateRefused fails the test if a function of a schedule and a state does not return an error and nothing else.
func expectStateRefused(t *testing.T, m impl.Medl, s impl.State, wantCode int64) {
	t.Helper()
	expectBelongs(t, m, s, false)
	expectDescriptorFor(t, m, s, impl.Descriptor{}, wantCode)
	expectNextState(t, m, s, impl.State{}, wantCode)
	expectSlotStart(t, m, s, 0, wantCode)
	expectStatesOfCycle(t, m, s, nil, wantCode)
	for _, to := range []int64{0, 1, s.Mode, -1, 16, least, greatest} {
		expectChangedMode(t, m, s, to, impl.State{}, wantCode)
	}
}

// expectModeRefused fails the test if a function of a schedule and a mode does not return an error and nothing else.
func expectModeRefused(t *testing.T, m impl.Medl, mode int64, wantCode int64) {
	t.Helper()
	for _, number := range []int64{0, 1, -1, 31, 32, 200, 65536, least, greatest} {
		expectSlotAt(t, m, mode, number, 0, 0, wantCode)
		expectSendTimes(t, m, mode, number, nil, wantCode)
	}
	for _, x := range m.Nodes {
		expectSendTimes(t, m, mode, x.Id, nil, wantCode)
	}
}

// checkState compares all functions of a schedule and a state with the timetable, and reports whether the state belongs to it.
func (x timetable) checkState(t *testing.T, s impl.State) bool {
	t.Helper()
	if !x.belongs(s) {
		expectStateRefused(t, x.m, s, impl.ErrRange)
		return false
	}
	y, states := x.cycles[s.Mode][x.indexIn(s)], x.statesFrom(s)
	expectBelongs(t, x.m, s, true)
	expectDescriptorFor(t, x.m, s, y.desc, impl.ErrNone)
	expectNextState(t, x.m, s, states[1], impl.ErrNone)
	expectSlotStart(t, x.m, s, y.start, impl.ErrNone)
	expectStatesOfCycle(t, x.m, s, states[:len(states)-1], impl.ErrNone)
	for to := int64(-1); to <= int64(len(x.m.Modes)); to++ {
		want, wantCode := x.changed(s, to)
		expectChangedMode(t, x.m, s, to, want, wantCode)
	}
	return true
}

// checkMode compares all functions of a schedule and a mode with the timetable, at a time and for all nodes.
func (x timetable) checkMode(t *testing.T, mode int64, time int64) {
	t.Helper()
	round, slot, code := x.slotAt(mode, time)
	expectSlotAt(t, x.m, mode, time, round, slot, code)
	for _, node := range x.m.Nodes {
		expectSendTimes(t, x.m, mode, node.Id, x.sendTimes(mode, node.Id), impl.ErrNone)
	}
}

// checkAll compares all functions with the timetable, for states in all slots and for all modes.
func (x timetable) checkAll(t *testing.T, seed uint64) {
	t.Helper()
	x.everyState(seed, func(s impl.State) {
		x.checkState(t, s)
		x.checkMode(t, s.Mode, x.cycles[s.Mode][x.indexIn(s)].start)
		x.checkMode(t, s.Mode, x.cycles[s.Mode][x.indexIn(s)].start-1)
	})
}

// The results have been written out by hand.
func TestKnownLookups(t *testing.T) {
	m := knownMedl()
	for i, x := range []struct {
		s, next        impl.State
		start, changed int64
	}{
		{impl.State{}, impl.State{Time: 200, Slot: 1}, 0, 800},
		{impl.State{Time: 1, Slot: 1, Members: 1}, impl.State{Time: 201, Round: 1, Members: 1}, 200, 601},
		{impl.State{Time: 65336, Round: 1, Members: 2}, impl.State{Time: 0, Round: 1, Slot: 1, Members: 2}, 400, 200},
		{impl.State{Time: 65335, Round: 1, Slot: 1, Members: 3}, impl.State{Time: 65535, Members: 3}, 600, 65535},
		{impl.State{Time: 65236, Mode: 1, Members: 3}, impl.State{Time: 0, Mode: 1, Slot: 1, Members: 3}, 0, 150},
		{impl.State{Time: 65535, Mode: 1, Slot: 1}, impl.State{Time: 149, Mode: 1}, 300, 149},
	} {
		expectBelongs(t, m, x.s, true)
		expectDescriptorFor(t, m, x.s, m.Slots[i].Desc, impl.ErrNone)
		expectNextState(t, m, x.s, x.next, impl.ErrNone)
		expectSlotStart(t, m, x.s, x.start, impl.ErrNone)
		expectChangedMode(t, m, x.s, 1-x.s.Mode, impl.State{Time: x.changed, Mode: 1 - x.s.Mode, Members: x.s.Members}, impl.ErrNone)
		expectChangedMode(t, m, x.s, x.s.Mode, impl.State{}, impl.ErrState)
	}
	for _, x := range []struct{ mode, time, round, slot, code int64 }{
		{0, 0, 0, 0, 0}, {0, 199, 0, 0, 0}, {0, 200, 0, 1, 0}, {0, 201, 0, 1, 0}, {0, 399, 0, 1, 0}, {0, 400, 1, 0, 0}, {0, 450, 1, 0, 0},
		{0, 599, 1, 0, 0}, {0, 600, 1, 1, 0}, {0, 799, 1, 1, 0}, {0, 800, 0, 0, 4}, {0, -1, 0, 0, 4}, {0, 801, 0, 0, 4},
		{1, 0, 0, 0, 0}, {1, 299, 0, 0, 0}, {1, 300, 0, 1, 0}, {1, 449, 0, 1, 0}, {1, 450, 0, 0, 4}, {1, -1, 0, 0, 4}, {2, 0, 0, 0, 2}, {-1, -1, 0, 0, 2},
	} {
		expectSlotAt(t, m, x.mode, x.time, x.round, x.slot, x.code)
	}
	expectSendTimes(t, m, 0, 0, []int64{0, 400}, impl.ErrNone)
	expectSendTimes(t, m, 0, 1, []int64{200, 600}, impl.ErrNone)
	expectSendTimes(t, m, 1, 0, []int64{300}, impl.ErrNone)
	expectSendTimes(t, m, 1, 1, []int64{0}, impl.ErrNone)
	expectSendTimes(t, m, 1, 2, nil, impl.ErrRange)
	expectSendTimes(t, m, 2, 0, nil, impl.ErrRange)
}

func TestKnownStatesOfCycles(t *testing.T) {
	m := knownMedl()
	want := []impl.State{
		{Time: 65000, Round: 1, Slot: 1, Members: 2}, {Time: 65200, Members: 2}, {Time: 65400, Slot: 1, Members: 2}, {Time: 64, Round: 1, Members: 2},
	}
	expectStatesOfCycle(t, m, want[0], want, impl.ErrNone)
	want = []impl.State{{Time: 7, Mode: 1}, {Time: 307, Mode: 1, Slot: 1}}
	expectStatesOfCycle(t, m, want[0], want, impl.ErrNone)
	want = []impl.State{{Time: 65535, Mode: 1, Slot: 1, Members: 3}, {Time: 149, Mode: 1, Members: 3}}
	expectStatesOfCycle(t, m, want[0], want, impl.ErrNone)
	one := impl.State{Time: 65500, Members: 1}
	expectStatesOfCycle(t, smallestMedl(), one, []impl.State{one}, impl.ErrNone)
	expectNextState(t, smallestMedl(), one, impl.State{Time: 45, Members: 1}, impl.ErrNone)
}

// In slackMedl the node 5 is passive, and the modes have 3 rounds of 12 slots, 2 of 6 and 2 of 3.
func TestKnownStatesThatBelong(t *testing.T) {
	for _, x := range []struct {
		s    impl.State
		want bool
	}{
		{impl.State{}, true},
		{impl.State{Time: 65535, Round: 2, Slot: 11, Members: 1<<0 + 1<<3 + 1<<9}, true},
		{impl.State{Time: 65536}, false},
		{impl.State{Time: -1}, false},
		{impl.State{Round: 3}, false},
		{impl.State{Slot: 12}, false},
		{impl.State{Mode: 1, Round: 1, Slot: 5, Members: 1 << 9}, true},
		{impl.State{Mode: 1, Round: 2, Slot: 5}, false},
		{impl.State{Mode: 1, Round: 1, Slot: 6}, false},
		{impl.State{Mode: 2, Round: 1, Slot: 2, Members: 1 << 3}, true},
		{impl.State{Mode: 2, Round: 1, Slot: 3}, false},
		{impl.State{Mode: 3}, false},
		{impl.State{Mode: -1}, false},
		{impl.State{Round: -1}, false},
		{impl.State{Slot: -1}, false},
		{impl.State{Members: 1 << 5}, false},
		{impl.State{Members: 1<<0 + 1<<3 + 1<<5 + 1<<9}, false},
		{impl.State{Members: 1 << 1}, false},
		{impl.State{Members: 1<<3 + 1<<4}, false},
		{impl.State{Members: 1 << 31}, false},
		{impl.State{Members: 1 << 32}, false},
		{impl.State{Members: 1<<32 + 1}, false},
		{impl.State{Members: -1}, false},
	} {
		expectBelongs(t, slackMedl(), x.s, x.want)
		if got := timetableOf(slackMedl()).belongs(x.s); got != x.want {
			t.Errorf("the reference says %v of %d", got, x.s)
		}
	}
}

// Each Mode, Round and Slot up to behind their ends is tried, with Members of whom all, some or none may be members.
func TestStatesThatBelong(t *testing.T) {
	within, outside := 0, 0
	for i, x := range someTimetables() {
		members := append(x.membersIn(uint64(i)+7010), allMembers, 1<<32)
		for mode := int64(-1); mode <= int64(min(len(x.m.Modes), 5))+1; mode++ {
			for round := int64(-1); round <= 8; round++ {
				for slot := int64(-1); slot <= 16; slot++ {
					s := impl.State{Time: 65535 * (slot & 1), Mode: mode, Round: round, Slot: slot, Members: members[int(mode*9+round*5+slot+60)%len(members)]}
					want := x.belongs(s)
					expectBelongs(t, x.m, s, want)
					if want {
						within++
					} else {
						outside++
					}
				}
			}
		}
	}
	if within < 1000 || outside < 1000 {
		t.Errorf("%d states belong to their schedules, and %d do not", within, outside)
	}
}

// Each node alone, each node beside all that are not passive, each missing among these, and vectors of all kinds.
func TestMembersThatBelong(t *testing.T) {
	within, outside := 0, 0
	for i, x := range someTimetables() {
		all := vectorByReference(x.active)
		list := append(vectors(), notVectors()...)
		for node := range 32 {
			list = append(list, 1<<node, all|1<<node, all&^(1<<node))
		}
		for k, s := range x.edgeStates(uint64(i) + 7020) {
			for n, members := range list {
				if (n+k)%3 == 0 || k == 0 {
					s.Members = members
					want := x.belongs(s)
					expectBelongs(t, x.m, s, want)
					if want {
						within++
					} else {
						outside++
					}
				}
			}
		}
	}
	if within < 1000 || outside < 1000 {
		t.Errorf("%d vectors belong to their schedules, and %d do not", within, outside)
	}
}

// checkWholeCycle follows a state through its cycle, and compares what promise 12 says.
func (x timetable) checkWholeCycle(t *testing.T, s impl.State) {
	t.Helper()
	states := x.statesFrom(s)
	size := len(states) - 1
	after := s
	for i := range size {
		next, code := impl.NextStateOf(x.m, after)
		if next != states[i+1] || code != impl.ErrNone {
			t.Fatalf("%s: the state %d slots after %d is %d, code %d, want %d", nameOfMedl(x.m), i+1, s, next, code, states[i+1])
		}
		after = next
	}
	want := s
	want.Time = (s.Time + x.cycleTime(s.Mode)) % 65536
	if after != want {
		t.Errorf("%s: the state a cycle after %d is %d, want %d", nameOfMedl(x.m), s, after, want)
	}
	if got := x.m.Modes[s.Mode].Rounds * x.m.Modes[s.Mode].Slots; got != int64(size) {
		t.Errorf("%s: the mode %d has %d slots in a cycle, and %d states", nameOfMedl(x.m), s.Mode, got, size)
	}
	expectStatesOfCycle(t, x.m, s, states[:size], impl.ErrNone)
}

// countCycle counts of what kinds a cycle that begins with a state is.
func (x timetable) countCycle(s impl.State, kinds map[string]int) {
	mode := x.m.Modes[s.Mode]
	time := s.Time + x.cycleTime(s.Mode)
	for kind, is := range map[string]bool{
		"one mode": len(x.m.Modes) == 1, "several modes": len(x.m.Modes) > 1, "most modes": len(x.m.Modes) == 16,
		"one round": mode.Rounds == 1, "most rounds": mode.Rounds == 8, "one slot": mode.Slots == 1, "most slots": mode.Slots == 16,
		"one node": len(x.m.Nodes) == 1, "most nodes": len(x.m.Nodes) == 32, "passive nodes": len(x.active) < len(x.m.Nodes), "no passive node": len(x.active) == len(x.m.Nodes),
		"no members": s.Members == 0, "all members": s.Members == vectorByReference(x.active), "some members": s.Members != 0 && s.Members != vectorByReference(x.active),
		"first slot": s.Slot == 0 && s.Round == 0, "last slot": s.Slot == mode.Slots-1 && s.Round == mode.Rounds-1,
		"Time 0": s.Time == 0, "greatest Time": s.Time == 65535, "Time that begins again": time > 65536, "Time that ends at 0": time == 65536, "Time that ends before 0": time == 65535,
	} {
		if is {
			kinds[kind]++
		}
	}
}

// expectCycles fails the test if cycles of some kind have not been met often.
func expectCycles(t *testing.T, kinds map[string]int) {
	t.Helper()
	for _, kind := range []string{
		"one mode", "several modes", "most modes", "one round", "most rounds", "one slot", "most slots", "one node", "most nodes", "passive nodes", "no passive node",
		"no members", "all members", "some members", "first slot", "last slot", "Time 0", "greatest Time", "Time that begins again", "Time that ends at 0", "Time that ends before 0",
	} {
		if kinds[kind] < 100 {
			t.Errorf("%d of the cycles have the kind %s", kinds[kind], kind)
		}
	}
}

// Promise 12: after as many slots as a cycle has, Round and Slot are the same, and Time has grown by the cycle time. Each slot
// of each mode of many schedules is the first one once.
func TestCyclesComeBackToTheirBeginning(t *testing.T) {
	kinds := map[string]int{}
	for i, x := range manyTimetables() {
		x.everyState(uint64(i)*100000+7100, func(s impl.State) {
			x.checkWholeCycle(t, s)
			x.countCycle(s, kinds)
		})
	}
	expectCycles(t, kinds)
}

// Promise 12 with all Times and Members of the tests, in the first and the last slot of some schedules.
func TestCyclesComeBackAtAllTimes(t *testing.T) {
	kinds := map[string]int{}
	for i, x := range someTimetables() {
		seed := uint64(i)*10 + 7200
		for mode, cycle := range x.cycles {
			if mode > 2 && mode < len(x.cycles)-1 {
				continue
			}
			for _, index := range []int{0, len(cycle) - 1} {
				for _, time := range x.timesAround(int64(mode), index, seed) {
					for _, members := range x.membersIn(seed) {
						s := impl.State{Time: time, Mode: int64(mode), Round: cycle[index].round, Slot: cycle[index].slot, Members: members}
						x.checkWholeCycle(t, s)
						x.countCycle(s, kinds)
					}
				}
			}
		}
	}
	expectCycles(t, kinds)
}

// Promise 12 for a round of one slot and a cycle of one: the next state is in the same slot, and only Time is another one.
func TestCyclesOfOneSlot(t *testing.T) {
	m := smallestMedl()
	for time := range int64(65536) {
		want := impl.State{Time: time + 81, Members: time & 1}
		if want.Time > 65535 {
			want.Time -= 65536
		}
		expectNextState(t, m, impl.State{Time: time, Members: time & 1}, want, impl.ErrNone)
	}
}

// All functions of a schedule and a state, in each slot of many schedules.
func TestLookupsOfManyStates(t *testing.T) {
	for i, x := range manyTimetables() {
		x.everyState(uint64(i)*100000+7300, func(s impl.State) {
			if !x.checkState(t, s) {
				t.Errorf("%s: %d does not belong to it", nameOfMedl(x.m), s)
			}
		})
	}
}

// The descriptor of a slot is that of its entry, and its sender that of SenderOf.
func TestDescriptorForIsThatOfTheEntry(t *testing.T) {
	for i, x := range manyTimetables() {
		for k, entry := range x.m.Slots {
			s := impl.State{Time: int64(k+i) % 65536, Mode: entry.Mode, Round: entry.Round, Slot: entry.Slot}
			expectDescriptorFor(t, x.m, s, entry.Desc, impl.ErrNone)
			expectSender(t, x.m, s.Mode, s.Round, s.Slot, entry.Desc.Node, impl.ErrNone)
		}
	}
}

// SlotAt is tried at the start of each slot, one before it and one after it, and around the ends of the cycle, and is compared
// with SlotStart.
func TestSlotAtAroundEachStart(t *testing.T) {
	for _, x := range manyTimetables() {
		for mode, cycle := range x.cycles {
			mode, end := int64(mode), x.cycleTime(int64(mode))
			for index, y := range cycle {
				expectSlotAt(t, x.m, mode, y.start, y.round, y.slot, impl.ErrNone)
				expectSlotAt(t, x.m, mode, y.start+1, y.round, y.slot, impl.ErrNone)
				expectSlotAt(t, x.m, mode, y.start+y.desc.Duration-1, y.round, y.slot, impl.ErrNone)
				if index > 0 {
					expectSlotAt(t, x.m, mode, y.start-1, cycle[index-1].round, cycle[index-1].slot, impl.ErrNone)
				}
				start, code := impl.SlotStart(x.m, impl.State{Mode: mode, Round: y.round, Slot: y.slot})
				expectNumber(t, "SlotStart", start, code, y.start, impl.ErrNone)
				expectSlotAt(t, x.m, mode, start, y.round, y.slot, impl.ErrNone)
			}
			last := cycle[len(cycle)-1]
			expectSlotAt(t, x.m, mode, 0, 0, 0, impl.ErrNone)
			expectSlotAt(t, x.m, mode, end-1, last.round, last.slot, impl.ErrNone)
			for _, time := range []int64{-1, end} {
				expectSlotAt(t, x.m, mode, time, 0, 0, impl.ErrNotFound)
			}
		}
	}
}

// Times that are in no cycle are far away, or become small in fewer bits.
func TestSlotAtOutsideTheCycle(t *testing.T) {
	for _, x := range someTimetables() {
		for mode := range int64(len(x.cycles)) {
			end := x.cycleTime(mode)
			for _, time := range []int64{-1, -2, -end, -end - 1, -65536, end, end + 1, 2 * end, 32000, 32001, 65535, 65536, 65536 + end, 1 << 31, 1 << 32, 1<<32 + 1, -1 << 32, least, least + 1, greatest - 1, greatest} {
				if time < 0 || time >= end {
					expectSlotAt(t, x.m, mode, time, 0, 0, impl.ErrNotFound)
				}
			}
		}
	}
}

// Each time of whole cycles is tried, and those around them.
func TestSlotAtOfAllTimes(t *testing.T) {
	for i, x := range someTimetables() {
		if i%6 > 0 {
			continue
		}
		for mode := range min(int64(len(x.cycles)), 2) {
			found := map[int64]int64{}
			for time := int64(-100); time < x.cycleTime(mode)+100; time++ {
				round, slot, code := x.slotAt(mode, time)
				expectSlotAt(t, x.m, mode, time, round, slot, code)
				if code == impl.ErrNone {
					found[round*16+slot]++
				}
			}
			for _, y := range x.cycles[mode] {
				expectNumber(t, "the number of times in a slot", found[y.round*16+y.slot], 0, y.desc.Duration, 0)
			}
		}
	}
}

// Each node of each schedule is tried, also those that are passive, and all nodes together send at all starts.
func TestSendTimesOfAllNodes(t *testing.T) {
	passive, often := 0, 0
	for _, x := range manyTimetables() {
		for mode, cycle := range x.cycles {
			var together, starts []int64
			for _, y := range cycle {
				starts = append(starts, y.start)
			}
			for _, node := range x.m.Nodes {
				want := x.sendTimes(int64(mode), node.Id)
				expectSendTimes(t, x.m, int64(mode), node.Id, want, impl.ErrNone)
				got, _ := impl.SendTimes(x.m, int64(mode), node.Id)
				together = append(together, got...)
				switch {
				case node.Passive && len(got) > 0:
					t.Errorf("%s: the passive node %d sends at %v", nameOfMedl(x.m), node.Id, got)
				case node.Passive:
					passive++
				case len(got) < int(x.m.Modes[mode].Rounds):
					t.Errorf("%s: the node %d sends at %v", nameOfMedl(x.m), node.Id, got)
				case len(got) > int(x.m.Modes[mode].Rounds):
					often++
				}
			}
			slices.Sort(together)
			expectList(t, "the times at which all nodes send", together, 0, starts, 0)
		}
	}
	if passive < 1000 || often < 1000 {
		t.Errorf("%d nodes are passive, and %d send often", passive, often)
	}
}

// The only node of a schedule sends at all starts, and in the longest cycle 120 times.
func TestSendTimesOfOneNode(t *testing.T) {
	m := plannedMedl(1, 2, 7400, cyclePlan{rounds: 8, slots: 15, time: 2000})
	var starts []int64
	for index := range int64(120) {
		// The first 5 slots of a round last 134 cells, and the other ones 133.
		slot := index % 15
		starts = append(starts, index/15*2000+slot*133+min(slot, 5))
	}
	for _, node := range m.Nodes {
		if node.Passive {
			expectSendTimes(t, m, 0, node.Id, nil, impl.ErrNone)
		} else {
			expectSendTimes(t, m, 0, node.Id, starts, impl.ErrNone)
		}
	}
}

// Numbers that are no modes or no nodes of a schedule, alone and together.
func TestSendTimesErrors(t *testing.T) {
	for _, x := range someTimetables() {
		others := notNodes()
		for node := range int64(32) {
			if !slices.ContainsFunc(x.m.Nodes, func(y impl.NodeInfo) bool { return y.Id == node }) {
				others = append(others, node)
			}
		}
		for mode := range int64(len(x.m.Modes)) {
			for _, node := range others {
				expectSendTimes(t, x.m, mode, node, nil, impl.ErrRange)
			}
		}
		for i, mode := range notModes(len(x.m.Modes)) {
			expectModeRefused(t, x.m, mode, impl.ErrRange)
			expectSendTimes(t, x.m, mode, others[i%len(others)], nil, impl.ErrRange)
		}
	}
}

// changeTimes returns Times for which a change happens at 0, just before it and just after it, in the middle and at the ends.
func changeTimes(rest int64) []int64 {
	return []int64{0, 1, 65534 - rest, 65535 - rest, 65536 - rest, 65537 - rest, 65535, 65536 - rest/2}
}

// ChangeMode is tried in each slot of a cycle with each mode, also with its own one and with numbers that are none.
func TestChangeModeToEachMode(t *testing.T) {
	allowed, refused, again := 0, 0, 0
	for i, x := range manyTimetables() {
		others := notModes(len(x.m.Modes))
		x.everyState(uint64(i)*100000+7500, func(s impl.State) {
			index := x.indexIn(s)
			rest := x.cycleTime(s.Mode) - x.cycles[s.Mode][index].start
			times := changeTimes(rest)
			s.Time = times[(index+i)%len(times)]
			for to := range int64(len(x.m.Modes)) {
				want, wantCode := x.changed(s, to)
				expectChangedMode(t, x.m, s, to, want, wantCode)
				switch {
				case wantCode != impl.ErrNone:
					refused++
				case want.Time < s.Time:
					again++
				default:
					allowed++
				}
			}
			expectChangedMode(t, x.m, s, s.Mode, impl.State{}, impl.ErrState)
			expectChangedMode(t, x.m, s, others[index%len(others)], impl.State{}, impl.ErrState)
		})
	}
	if allowed < 1000 || refused < 1000 || again < 1000 {
		t.Errorf("%d changes are allowed, and %d where Time begins again; %d are refused", allowed, again, refused)
	}
}

// A change leads to the beginning of the next cycle, which is reached slot by slot as well, but for the mode.
func TestChangeModeIsTheRestOfTheCycle(t *testing.T) {
	met := 0
	for i, x := range someTimetables() {
		x.everyState(uint64(i)*1000+7600, func(s impl.State) {
			end := s
			for range len(x.cycles[s.Mode]) - x.indexIn(s) {
				end, _ = impl.NextStateOf(x.m, end)
			}
			for _, to := range x.m.Modes[s.Mode].Next {
				want := end
				want.Mode = to
				expectChangedMode(t, x.m, s, to, want, impl.ErrNone)
				expectBelongs(t, x.m, want, true)
				met++
			}
			if end.Round != 0 || end.Slot != 0 {
				t.Errorf("%s: the cycle of %d ends at %d", nameOfMedl(x.m), s, end)
			}
		})
	}
	if met < 1000 {
		t.Errorf("there are %d changes", met)
	}
}

// Next of a mode need not be that of the other one, and modes that are reached by two changes are not reached by one.
func TestChangeModeInOneDirection(t *testing.T) {
	m := changed(slackMedl(), func(m *impl.Medl) { m.Modes[0].Next, m.Modes[1].Next, m.Modes[2].Next = []int64{1}, []int64{2}, nil })
	s := impl.State{Time: 5, Members: 8}
	for from := range int64(3) {
		s.Mode = from
		for to := int64(-1); to <= 3; to++ {
			want, wantCode := impl.State{}, int64(impl.ErrState)
			if to == from+1 && to < 3 {
				want, wantCode = impl.State{Time: []int64{32003, 2435}[from], Mode: to, Members: 8}, impl.ErrNone
			}
			expectChangedMode(t, m, s, to, want, wantCode)
		}
	}
}

// outsideStates returns states that do not belong to the schedule, each by one field alone, with what differs from right ones by
// little and by much.
func (x timetable) outsideStates(seed uint64) []impl.State {
	var list []impl.State
	var noMembers []int64
	for node := range int64(32) {
		if !slices.Contains(x.active, node) {
			noMembers = append(noMembers, node)
		}
	}
	for i, s := range x.edgeStates(seed) {
		mode := x.m.Modes[s.Mode]
		wrong := [][]int64{
			{-1, 65536, 65537, 131071, -65536, 1 << 32, least, greatest},
			notModes(len(x.m.Modes)),
			{-1, mode.Rounds, mode.Rounds + 1, mode.Rounds + 16, -mode.Rounds, 1 << 32, least, greatest},
			{-1, mode.Slots, mode.Slots + 1, mode.Slots + 256, -mode.Slots, 1 << 32, least, greatest},
			notVectors(),
		}
		for _, node := range noMembers {
			wrong[4] = append(wrong[4], 1<<node, s.Members|1<<node, vectorByReference(x.active)|1<<node)
		}
		for field, values := range wrong {
			for k, value := range values {
				if i == 0 || (i+k)%5 == 0 {
					list = append(list, stateOf(with(fieldsOf(s), field, value)))
				}
			}
		}
	}
	return list
}

// States that are not valid, or whose Mode, Round, Slot or Members are none of the schedule, are ErrRange for all functions,
// whatever the mode is to which is changed.
func TestStatesThatDoNotBelong(t *testing.T) {
	for i, x := range someTimetables() {
		for _, s := range append(x.outsideStates(uint64(i)+7700), notStates()[i%5*7], impl.State{Time: -1, Mode: -1, Round: -1, Slot: -1, Members: -1}) {
			if x.belongs(s) {
				t.Errorf("%s: %d belongs to it", nameOfMedl(x.m), s)
			}
			expectStateRefused(t, x.m, s, impl.ErrRange)
			for _, mode := range x.m.Modes[0].Next {
				expectChangedMode(t, x.m, s, mode, impl.State{}, impl.ErrRange)
			}
		}
	}
}

// All states of the tests that are not valid are tried with one schedule, and all that are valid too.
func TestLookupsOfAllStates(t *testing.T) {
	for _, x := range []timetable{timetableOf(knownMedl()), timetableOf(slackMedl()), timetableOf(plannedMedl(1, 3, 7710, slices.Repeat([]cyclePlan{{rounds: 1, slots: 7}}, 16)...))} {
		for _, s := range notStates() {
			expectStateRefused(t, x.m, s, impl.ErrRange)
		}
		for _, s := range states() {
			x.checkState(t, s)
		}
	}
}

// expectLookupErrInvalid fails the test if a function does not say first that a schedule is not well-formed, whatever else it is
// called with.
func expectLookupErrInvalid(t *testing.T, m impl.Medl) {
	t.Helper()
	for _, s := range []impl.State{{}, {Members: 1}, {Mode: 1, Slot: 1}, {Time: -1}, {Mode: 16}, {Round: 8}, {Slot: greatest}, {Members: least}, greatestState} {
		expectStateRefused(t, m, s, impl.ErrInvalid)
	}
	for _, mode := range []int64{0, 1, -1, 16, least, greatest} {
		expectModeRefused(t, m, mode, impl.ErrInvalid)
	}
}

// brokenMedls are schedules that break one rule alone, some sets of rules at once, or all that there are.
func brokenMedls() []impl.Medl {
	list := []impl.Medl{
		{}, {Id: 1}, {Id: 1, Nodes: []impl.NodeInfo{}, Modes: []impl.ModeInfo{}, Slots: []impl.SlotInfo{}},
		{Id: 1, Nodes: []impl.NodeInfo{{Name: "a"}}, Modes: []impl.ModeInfo{{Rounds: greatest, Slots: greatest}}},
		{Id: 1, Nodes: []impl.NodeInfo{{Name: "a"}}, Modes: []impl.ModeInfo{{Rounds: 1, Slots: 1}}},
		{Id: 1, Nodes: []impl.NodeInfo{{Name: "a"}}, Modes: []impl.ModeInfo{{Rounds: 1, Slots: 1}}, Slots: []impl.SlotInfo{{Mode: least, Round: greatest, Desc: impl.Descriptor{Duration: greatest}}}},
	}
	for set := 1; set < 1<<10; set++ {
		m := slackMedl()
		for i, change := range breakers() {
			if set>>i&1 == 1 {
				change(&m)
			}
		}
		if set&(set-1) == 0 || set%37 == 0 {
			list = append(list, m)
		}
	}
	return list
}

// Schedules that break one rule alone, all sets of rules at once, and those with tables that are none.
func TestLookupsOfBrokenSchedules(t *testing.T) {
	for _, m := range brokenMedls() {
		if firstByReference(m) == 0 {
			t.Errorf("%s is well-formed", nameOfMedl(m))
		}
		expectLookupErrInvalid(t, m)
	}
	for _, m := range medlsWithWrongTables() {
		expectLookupErrInvalid(t, m)
	}
}

// Each rule is broken as little as a test of chapter 13 breaks it, in schedules of all kinds.
func TestLookupsOfSchedulesWithSmallChanges(t *testing.T) {
	broken, whole := 0, 0
	for seed, x := range someTimetables() {
		numbers := mixed(4096, 1<<30, uint64(seed)+7720)
		next := 0
		draw := func(limit int) int {
			next++
			return int(numbers[next%len(numbers)]) % limit
		}
		for _, change := range smallChanges(draw) {
			m := changed(x.m, change)
			if firstByReference(m) != 0 {
				expectLookupErrInvalid(t, m)
				broken++
				continue
			}
			y := timetableOf(m)
			for _, s := range append(x.edgeStates(uint64(seed)+7730), y.edgeStates(uint64(seed)+7740)...) {
				y.checkState(t, s)
			}
			whole++
		}
	}
	if broken < 100 || whole < 100 {
		t.Errorf("%d schedules are broken, and %d are not", broken, whole)
	}
}

// The errors come in their order: a schedule that is not well-formed before a state, a mode or a node that does not belong to it,
// and this before a mode that may not be reached and a time that is in no cycle.
func TestLookupErrors(t *testing.T) {
	m := changed(knownMedl(), func(m *impl.Medl) { m.Nodes = append(m.Nodes, impl.NodeInfo{Id: 4, Name: "c", Passive: true}) })
	broken := withMedlId(m, 0)
	for _, x := range []struct {
		m        impl.Medl
		s        impl.State
		to, code int64
	}{
		{broken, impl.State{Members: 16}, 0, impl.ErrInvalid},
		{broken, impl.State{Time: -1}, 9, impl.ErrInvalid},
		{broken, impl.State{}, 1, impl.ErrInvalid},
		{m, impl.State{Members: 16}, 0, impl.ErrRange},
		{m, impl.State{Members: 4}, 1, impl.ErrRange},
		{m, impl.State{Mode: 2}, 2, impl.ErrRange},
		{m, impl.State{Round: 2}, 9, impl.ErrRange},
		{m, impl.State{Mode: 1, Round: 1}, 0, impl.ErrRange},
		{m, impl.State{}, 0, impl.ErrState},
		{m, impl.State{}, 2, impl.ErrState},
		{m, impl.State{}, -1, impl.ErrState},
		{m, impl.State{}, greatest, impl.ErrState},
		{m, impl.State{Mode: 1, Members: 3}, 1, impl.ErrState},
	} {
		expectChangedMode(t, x.m, x.s, x.to, impl.State{}, x.code)
	}
	for _, mode := range []int64{0, 2, -1} {
		expectSlotAt(t, broken, mode, -1, 0, 0, impl.ErrInvalid)
		expectSendTimes(t, broken, mode, 9, nil, impl.ErrInvalid)
		expectSendTimes(t, broken, mode, 4, nil, impl.ErrInvalid)
	}
	for _, mode := range []int64{2, -1, 16, least, greatest} {
		expectSlotAt(t, m, mode, -1, 0, 0, impl.ErrRange)
		expectSlotAt(t, m, mode, 0, 0, 0, impl.ErrRange)
		expectSendTimes(t, m, mode, 9, nil, impl.ErrRange)
		expectSendTimes(t, m, mode, 4, nil, impl.ErrRange)
	}
	expectSlotAt(t, m, 1, 450, 0, 0, impl.ErrNotFound)
	expectSendTimes(t, m, 1, 9, nil, impl.ErrRange)
	expectSendTimes(t, m, 1, 4, nil, impl.ErrNone)
}

// The same call answers the same each time.
func TestLookupsAnswerTheSame(t *testing.T) {
	for _, x := range []timetable{timetableOf(knownMedl()), timetableOf(slackMedl()), timetableOf(oneNodeMedl())} {
		for range 20 {
			x.checkAll(t, 7800)
			expectStateRefused(t, x.m, impl.State{Time: 65536}, impl.ErrRange)
			expectModeRefused(t, x.m, 16, impl.ErrRange)
		}
	}
}

// longerBy returns a copy of a schedule in which a slot of a mode is longer, in all of its rounds.
func longerBy(m impl.Medl, mode int64, slot int64, cells int64) impl.Medl {
	return changed(m, func(m *impl.Medl) {
		for i, x := range m.Slots {
			if x.Mode == mode && x.Slot == slot {
				m.Slots[i].Desc.Duration += cells
			}
		}
	})
}

// durationPairs returns pairs of well-formed schedules that differ in the Duration of one slot alone: in those of one round in
// one number.
func durationPairs() [][2]timetable {
	var pairs [][2]timetable
	for i, x := range someTimetables() {
		for k, entry := range x.m.Slots {
			if entry.Round > 0 || (i+k)%5 > 0 {
				continue
			}
			for _, cells := range []int64{1, -1} {
				if other := longerBy(x.m, entry.Mode, entry.Slot, cells); firstByReference(other) == 0 {
					pairs = append(pairs, [2]timetable{x, timetableOf(other)})
				}
			}
		}
	}
	return pairs
}

// checkPlaces compares SlotStart, NextStateOf and SlotAt of the ends of each mode, SendTimes and a change with the timetable.
func (x timetable) checkPlaces(t *testing.T, seed uint64) {
	t.Helper()
	for _, s := range x.edgeStates(seed) {
		x.checkState(t, s)
		x.checkMode(t, s.Mode, x.cycleTime(s.Mode)-1)
		x.checkMode(t, s.Mode, x.cycleTime(s.Mode))
	}
}

// An answer speaks of the schedule of its call and of no earlier one.
func TestLookupsOfSchedulesThatDifferInOneDuration(t *testing.T) {
	single := 0
	for i, pair := range durationPairs() {
		pair[0].checkPlaces(t, uint64(i)+7810)
		pair[1].checkPlaces(t, uint64(i)+7810)
		pair[0].checkPlaces(t, uint64(i)+7811)
		differing := 0
		for k, entry := range pair[0].m.Slots {
			if entry != pair[1].m.Slots[k] {
				differing++
			}
		}
		if differing == 1 {
			single++
		}
	}
	if single < 50 {
		t.Errorf("%d pairs of schedules differ in one number alone", single)
	}
}

// A schedule that the caller changes between two calls, in the same memory, is another one.
func TestLookupsOfAScheduleThatHasBeenChanged(t *testing.T) {
	m := slackMedl()
	for i, change := range []func(){
		func() {},
		func() { descriptorOf(&m, 1, 0, 2).Duration--; descriptorOf(&m, 1, 1, 2).Duration-- },
		func() {
			for round := range int64(3) {
				descriptorOf(&m, 0, round, 0).Duration, descriptorOf(&m, 0, round, 11).Duration = descriptorOf(&m, 0, round, 11).Duration-20, descriptorOf(&m, 0, round, 0).Duration+20
			}
		},
		func() { m.Modes[0].Next[0], m.Modes[0].Next = 2, m.Modes[0].Next[:1] },
		func() { m.Modes[1].Next[0] = 2 },
		func() { descriptorOf(&m, 0, 1, 4).Node = 3 },
		func() { m.Nodes[2].Id = 6 },
		func() { m.Id-- },
		func() {
			for k, x := range m.Slots {
				if x.Desc.Node == 9 {
					m.Slots[k].Desc.Node = 3
				}
			}
			m.Nodes[3].Passive = true
		},
		func() {
			m.Slots = m.Slots[:len(m.Slots)-6]
			m.Modes = m.Modes[:2]
			m.Modes[0].Next, m.Modes[1].Next = nil, nil
		},
	} {
		change()
		x := timetableOf(copiedMedl(m))
		x.m = m
		expectFault(t, m, 0)
		x.checkAll(t, uint64(i)+7820)
		x.checkAll(t, uint64(i)+7821)
	}
	m.Slots[0].Desc.Duration++
	expectLookupErrInvalid(t, m)
	m.Slots[0].Desc.Duration--
	timetableOf(m).checkAll(t, 7830)
}

// Several goroutines ask at once, about the same schedule and about some that differ from it in one Duration.
func TestLookupsFromSeveralGoroutines(t *testing.T) {
	pairs := durationPairs()
	var group sync.WaitGroup
	for worker := range uint64(8) {
		group.Go(func() {
			for i := range uint64(40) {
				pair := pairs[i*7%uint64(len(pairs))]
				pair[(i+worker)%2].checkPlaces(t, 7840+worker*i)
				pair[(i+worker+1)%2].checkPlaces(t, 7841+worker*i)
			}
		})
	}
	group.Wait()
	x := timetableOf(slackMedl())
	for worker := range uint64(8) {
		group.Go(func() {
			x.checkAll(t, 7850)
			x.checkAll(t, 7850+worker)
			expectStateRefused(t, x.m, impl.State{Members: 1 << 5}, impl.ErrRange)
			expectLookupErrInvalid(t, withMedlId(x.m, 0))
		})
	}
	group.Wait()
}

// lookupStates are states that belong to most schedules, and some that do not.
func lookupStates() []impl.State {
	return []impl.State{{}, {Time: 65535}, {Mode: 1}, {Slot: 1}, {Round: 1}, {Mode: 1, Slot: 1, Members: 1}, {Time: 65536}, {Mode: 16}, {Members: allMembers}}
}

// lookupCalls are calls of all functions of the chapter.
func lookupCalls(m impl.Medl) []func(m impl.Medl) []int64 {
	var calls []func(m impl.Medl) []int64
	for _, s := range lookupStates() {
		calls = append(calls,
			func(m impl.Medl) []int64 { return truth(impl.BelongsTo(m, s)) },
			func(m impl.Medl) []int64 {
				d, code := impl.DescriptorFor(m, s)
				return append(descriptorFields(d), code)
			},
			func(m impl.Medl) []int64 { got, code := impl.NextStateOf(m, s); return append(fieldsOf(got), code) },
			func(m impl.Medl) []int64 { got, code := impl.SlotStart(m, s); return []int64{got, code} },
			func(m impl.Medl) []int64 { got, code := impl.ChangeMode(m, s, 1); return append(fieldsOf(got), code) },
			func(m impl.Medl) []int64 { got, code := impl.ChangeMode(m, s, 0); return append(fieldsOf(got), code) },
			func(m impl.Medl) []int64 {
				got, code := impl.StatesOfCycle(m, s)
				return []int64{int64(len(got)), code}
			},
		)
	}
	for _, mode := range []int64{-1, 0, int64(len(m.Modes)) - 1, int64(len(m.Modes))} {
		for _, number := range []int64{-1, 0, 1, 4, 80, 400, 32000} {
			calls = append(calls,
				func(m impl.Medl) []int64 {
					round, slot, code := impl.SlotAt(m, mode, number)
					return []int64{round, slot, code}
				},
				func(m impl.Medl) []int64 {
					got, code := impl.SendTimes(m, mode, number)
					return append([]int64{code}, got...)
				},
			)
		}
	}
	return calls
}

// No function changes a table, the Next of an entry or the spare capacity behind them, whether it succeeds or fails.
func TestLookupsLeaveMemoryAlone(t *testing.T) {
	for _, m := range medlsOfMemory() {
		g := guardMedl(m)
		for i, call := range lookupCalls(m) {
			one, other := call(g.m), call(g.m)
			if !slices.Equal(one, other) {
				t.Errorf("%s: a second call %d returned another result", nameOfMedl(m), i)
			}
		}
		g.expectUntouched(t, "a lookup")
	}
}

// expectOwnMemory fails the test if the result of a call shares memory with the schedule or with another result.
func expectOwnMemory[T comparable](t *testing.T, name string, m impl.Medl, marked T, call func(m impl.Medl) []T) int {
	t.Helper()
	g := guardMedl(m)
	one, other := call(g.m), call(g.m)
	want := slices.Clone(one)
	if !slices.Equal(one, other) {
		t.Errorf("%s %s: a second call returned another result", name, nameOfMedl(m))
	}
	fillAll(other, marked)
	if !slices.Equal(one, want) {
		t.Errorf("%s %s: two results share memory", name, nameOfMedl(m))
	}
	g.expectUntouched(t, name+": writing to the result")
	if again := call(g.m); !slices.Equal(again, want) {
		t.Errorf("%s %s: writing to the result changed a later one", name, nameOfMedl(m))
	}
	g.overwrite()
	if !slices.Equal(one, want) {
		t.Errorf("%s %s: the result shares memory with the schedule", name, nameOfMedl(m))
	}
	return len(want)
}

func TestLookupsReturnNewMemory(t *testing.T) {
	times, found := 0, 0
	marked := impl.State{Time: mark, Mode: mark, Round: mark, Slot: mark, Members: mark}
	for _, m := range append(medlsOfMemory(), oneNodeMedl(), smallestMedl()) {
		for mode := int64(-1); mode <= int64(len(m.Modes)); mode++ {
			for _, node := range append(notNodes()[:2], 0, 1, 4, 9) {
				times += expectOwnMemory(t, "SendTimes", m, mark, func(m impl.Medl) []int64 { return first(impl.SendTimes(m, mode, node)) })
			}
		}
		for _, s := range lookupStates() {
			found += expectOwnMemory(t, "StatesOfCycle", m, marked, func(m impl.Medl) []impl.State { list, _ := impl.StatesOfCycle(m, s); return list })
		}
	}
	if times < 100 || found < 100 {
		t.Errorf("there are %d times and %d states in all results", times, found)
	}
}
