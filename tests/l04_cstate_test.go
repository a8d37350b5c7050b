package tests

import (
	"fmt"
	"regexp"
	"strconv"
	"strings"
	"testing"

	"loop.example/g00833/impl"
)

// stateField is what the document says of a field of a state.
type stateField struct {
	name     string
	width    int
	greatest int64
}

// stateFields are the fields in the order of their bits.
var stateFields = []stateField{{"Time", 16, 65535}, {"Mode", 4, 15}, {"Round", 4, 15}, {"Slot", 8, 255}, {"Members", 32, 4294967295}}

// fieldsOf returns the fields of a state as a list.
func fieldsOf(s impl.State) []int64 { return []int64{s.Time, s.Mode, s.Round, s.Slot, s.Members} }

// stateOf returns the state with a list of five fields.
func stateOf(fields []int64) impl.State {
	return impl.State{Time: fields[0], Mode: fields[1], Round: fields[2], Slot: fields[3], Members: fields[4]}
}

// bitsByReference returns the bits of a valid state. It does not use the program.
func bitsByReference(s impl.State) []int64 {
	var text strings.Builder
	for i, value := range fieldsOf(s) {
		text.WriteString(textOfNumber(value, stateFields[i].width))
	}
	return bitsOfText(text.String())
}

// textByReference returns the text of the fields of a state, valid or not. It does not use the program.
func textByReference(s impl.State) string {
	return fmt.Sprintf("%d/%d/%d/%d/%d", s.Time, s.Mode, s.Round, s.Slot, s.Members)
}

var (
	leastState    = impl.State{}
	greatestState = impl.State{Time: 65535, Mode: 15, Round: 15, Slot: 255, Members: 4294967295}
	middleState   = impl.State{Time: 300, Mode: 1, Round: 2, Slot: 3, Members: 5}
)

// mixedStates returns valid states that follow no simple pattern.
func mixedStates(size int, seed uint64) []impl.State {
	states := make([]impl.State, size)
	for i := range states {
		fields := make([]int64, len(stateFields))
		for k, f := range stateFields {
			fields[k] = mixed(1, f.greatest+1, seed+uint64(i*7+k)*1000003)[0]
		}
		// The generator has no more than 31 bits at once.
		fields[4] = fields[4]*2 + mixed(1, 2, seed+uint64(i))[0]
		states[i] = stateOf(fields)
	}
	return states
}

// states returns valid states: mixed ones, and those with a field at its ends and at the powers of two.
func states() []impl.State {
	list := append(mixedStates(200, 40), leastState, greatestState, middleState)
	for _, base := range []impl.State{leastState, greatestState, middleState} {
		for i, f := range stateFields {
			for _, value := range []int64{0, 1, f.greatest - 1, f.greatest, f.greatest / 2, f.greatest/2 + 1} {
				list = append(list, stateOf(with(fieldsOf(base), i, value)))
			}
			for power := range f.width {
				list = append(list, stateOf(with(fieldsOf(base), i, 1<<power)))
			}
		}
	}
	return list
}

// notStates returns states with one wrong field, and one in which all are wrong.
func notStates() []impl.State {
	list := []impl.State{{Time: -1, Mode: -1, Round: -1, Slot: -1, Members: -1}}
	for _, base := range []impl.State{leastState, greatestState, middleState} {
		for i, f := range stateFields {
			limit := f.greatest + 1
			for _, wrong := range []int64{-1, limit, limit + 1, 2*limit - 1, -limit, -f.greatest, 1 << 32, 1<<32 + 1, 1 << 48, least, least + 1, greatest} {
				list = append(list, stateOf(with(fieldsOf(base), i, wrong)))
			}
		}
	}
	return list
}

// expectState fails the test if a call did not return this state and this code.
func expectState(t *testing.T, call string, got impl.State, code int64, want impl.State, wantCode int64) {
	t.Helper()
	if got != want || code != wantCode {
		t.Errorf("%s: %d, code %d, want %d, code %d", call, got, code, want, wantCode)
	}
}

func TestConstantsOfStates(t *testing.T) {
	got := []int64{impl.MaxTime, impl.MaxMode, impl.MaxRound, impl.MaxSlot, impl.MaxNodes, impl.StateBytes}
	expectList(t, "the constants", got, 0, []int64{65535, 15, 15, 255, 32, 8}, 0)
}

func TestIsState(t *testing.T) {
	for _, s := range states() {
		if !impl.IsState(s) {
			t.Errorf("IsState %d is false", s)
		}
	}
	for _, s := range notStates() {
		if impl.IsState(s) {
			t.Errorf("IsState %d is true", s)
		}
	}
}

// Each field is tried below, at and above its ends, beside others that are at their own ends.
func TestIsStateAtTheEndsOfEachField(t *testing.T) {
	for _, base := range []impl.State{leastState, greatestState} {
		for i, f := range stateFields {
			for value, want := range map[int64]bool{-1: false, 0: true, 1: true, f.greatest - 1: true, f.greatest: true, f.greatest + 1: false} {
				if got := impl.IsState(stateOf(with(fieldsOf(base), i, value))); got != want {
					t.Errorf("IsState of %d with the %s %d is %v", base, f.name, value, got)
				}
			}
		}
	}
}

func TestStateToBits(t *testing.T) {
	for _, x := range []struct {
		s    impl.State
		want string
	}{
		{leastState, strings.Repeat("0", 64)},
		{greatestState, strings.Repeat("1", 64)},
		{middleState, "0000000100101100" + "0001" + "0010" + "00000011" + "00000000000000000000000000000101"},
		{impl.State{Time: 32768, Mode: 8, Round: 1, Slot: 128, Members: 1 << 31}, "1000000000000000" + "1000" + "0001" + "10000000" + "10000000000000000000000000000000"},
		{impl.State{Time: 1, Mode: 6, Round: 9, Slot: 254, Members: 1}, "0000000000000001" + "0110" + "1001" + "11111110" + "00000000000000000000000000000001"},
		{impl.State{Mode: 15}, "0000000000000000" + "1111" + strings.Repeat("0", 44)},
		{impl.State{Round: 15}, "00000000000000000000" + "1111" + strings.Repeat("0", 40)},
	} {
		got, code := impl.StateToBits(x.s)
		expectList(t, fmt.Sprint("StateToBits ", x.s), got, code, bitsOfText(x.want), impl.ErrNone)
	}
	for _, s := range states() {
		got, code := impl.StateToBits(s)
		expectList(t, fmt.Sprint("StateToBits ", s), got, code, bitsByReference(s), impl.ErrNone)
	}
}

// The bytes of a state are those of its bits.
func TestBytesOfStates(t *testing.T) {
	for _, x := range []struct {
		s    impl.State
		want []int64
	}{
		{leastState, repeated(0, impl.StateBytes)},
		{greatestState, repeated(255, impl.StateBytes)},
		{middleState, []int64{1, 44, 0x12, 3, 0, 0, 0, 5}},
		{impl.State{Time: 0x1234, Mode: 5, Round: 6, Slot: 0x78, Members: 0x9ABCDEF0}, []int64{0x12, 0x34, 0x56, 0x78, 0x9A, 0xBC, 0xDE, 0xF0}},
	} {
		bits, _ := impl.StateToBits(x.s)
		got, code := impl.BitsToBytes(bits)
		expectList(t, fmt.Sprint("the bytes of ", x.s), got, code, x.want, impl.ErrNone)
	}
}

func TestStateToBitsErrors(t *testing.T) {
	for _, s := range notStates() {
		got, code := impl.StateToBits(s)
		expectList(t, fmt.Sprint("StateToBits ", s), got, code, nil, impl.ErrInvalid)
	}
}

func TestStateFromBits(t *testing.T) {
	for _, x := range []struct {
		bits string
		want impl.State
	}{
		{strings.Repeat("0", 64), leastState},
		{strings.Repeat("1", 64), greatestState},
		{"0000000100101100" + "0001" + "0010" + "00000011" + "00000000000000000000000000000101", middleState},
		{"1000000000000001" + "0111" + "1000" + "10000001" + "10000000000000000000000000000010", impl.State{Time: 32769, Mode: 7, Round: 8, Slot: 129, Members: 1<<31 + 2}},
	} {
		got, code := impl.StateFromBits(bitsOfText(x.bits))
		expectState(t, "StateFromBits "+x.bits, got, code, x.want, impl.ErrNone)
	}
}

func TestStateFromBitsErrors(t *testing.T) {
	lists := append(notBits(), nil, []int64{}, []int64{0}, repeated(300, 8))
	for _, size := range []int{1, 8, 16, 32, 62, 63, 65, 66, 72, 128, impl.MaxBits - 1, impl.MaxBits} {
		lists = append(lists, repeated(0, size), repeated(1, size), mixed(size, 2, 41))
	}
	for _, wrong := range []int64{2, -1, 3, 255, 1 << 32, 1<<32 + 1, greatest, least} {
		for index := range 64 {
			lists = append(lists, with(repeated(0, 64), index, wrong), with(repeated(1, 64), index, wrong))
		}
		lists = append(lists, repeated(wrong, 64), with(repeated(0, 63), 62, wrong), with(repeated(0, 65), 64, wrong))
	}
	for _, list := range lists {
		got, code := impl.StateFromBits(list)
		expectState(t, "StateFromBits "+shortened(list), got, code, impl.State{}, impl.ErrRange)
	}
}

// Promise 1, states: every state is recovered from its bits and from its text, and different states have different ones.
func TestStatesAreRecovered(t *testing.T) {
	bitsSeen, textsSeen := map[string]impl.State{}, map[string]impl.State{}
	for _, s := range append(states(), mixedStates(3000, 42)...) {
		bits, code := impl.StateToBits(s)
		if code != impl.ErrNone || len(bits) != 64 {
			t.Fatalf("StateToBits %d: %s, code %d", s, shortened(bits), code)
		}
		got, code := impl.StateFromBits(bits)
		expectState(t, fmt.Sprint("StateFromBits of the bits of ", s), got, code, s, impl.ErrNone)
		text := impl.StateText(s)
		got, ok := impl.ReadState(text)
		if !ok || got != s {
			t.Errorf("ReadState %q: %d, %v, want %d", text, got, ok, s)
		}
		if other, ok := bitsSeen[listText(bits)]; ok && other != s {
			t.Errorf("%d and %d have the bits %s", s, other, listText(bits))
		}
		if other, ok := textsSeen[text]; ok && other != s {
			t.Errorf("%d and %d have the text %q", s, other, text)
		}
		bitsSeen[listText(bits)], textsSeen[text] = s, s
	}
}

// Promise 1, states: every list of 64 bits is that of a valid state.
func TestBitsAreThoseOfTheirStates(t *testing.T) {
	lists := [][]int64{repeated(0, 64), repeated(1, 64)}
	for index := range 64 {
		lists = append(lists, onesAt(64, index), with(repeated(1, 64), index, 0), joined(repeated(0, index), repeated(1, 64-index)))
	}
	for seed := range uint64(2000) {
		lists = append(lists, mixed(64, 2, seed*65537+43))
	}
	for _, list := range lists {
		s, code := impl.StateFromBits(list)
		if code != impl.ErrNone || !impl.IsState(s) {
			t.Errorf("StateFromBits %s: %d, code %d", listText(list), s, code)
		}
		got, code := impl.StateToBits(s)
		expectList(t, fmt.Sprint("StateToBits ", s), got, code, list, impl.ErrNone)
	}
}

func TestAdvanceState(t *testing.T) {
	for _, x := range []struct {
		s                       impl.State
		duration, slots, rounds int64
		want                    impl.State
	}{
		{middleState, 100, 4, 3, impl.State{Time: 400, Mode: 1, Members: 5}},
		{middleState, 100, 4, 4, impl.State{Time: 400, Mode: 1, Round: 3, Members: 5}},
		{middleState, 100, 5, 3, impl.State{Time: 400, Mode: 1, Round: 2, Slot: 4, Members: 5}},
		{middleState, 0, 256, 16, impl.State{Time: 300, Mode: 1, Round: 2, Slot: 4, Members: 5}},
		{middleState, 65535, 256, 16, impl.State{Time: 299, Mode: 1, Round: 2, Slot: 4, Members: 5}},
		{leastState, 0, 1, 1, leastState},
		{leastState, 65535, 1, 1, impl.State{Time: 65535}},
		{leastState, 7, 1, 2, impl.State{Time: 7, Round: 1}},
		{impl.State{Round: 1}, 7, 1, 2, impl.State{Time: 7}},
		{leastState, 7, 2, 1, impl.State{Time: 7, Slot: 1}},
		{impl.State{Slot: 1}, 7, 2, 1, impl.State{Time: 7}},
		{greatestState, 0, 256, 16, impl.State{Time: 65535, Mode: 15, Members: 4294967295}},
		{greatestState, 1, 256, 16, impl.State{Mode: 15, Members: 4294967295}},
		{greatestState, 65535, 256, 16, impl.State{Time: 65534, Mode: 15, Members: 4294967295}},
		{impl.State{Slot: 254, Round: 15}, 0, 256, 16, impl.State{Slot: 255, Round: 15}},
		{impl.State{Slot: 254, Round: 15}, 0, 255, 16, leastState},
		{impl.State{Slot: 255, Round: 14}, 0, 256, 16, impl.State{Round: 15}},
		{impl.State{Slot: 255, Round: 14}, 0, 256, 15, leastState},
		{impl.State{Time: 65000}, 535, 2, 2, impl.State{Time: 65535, Slot: 1}},
		{impl.State{Time: 65000}, 536, 2, 2, impl.State{Slot: 1}},
		{impl.State{Time: 65000}, 537, 2, 2, impl.State{Time: 1, Slot: 1}},
	} {
		got, code := impl.AdvanceState(x.s, x.duration, x.slots, x.rounds)
		expectState(t, fmt.Sprint("AdvanceState ", x.s, x.duration, x.slots, x.rounds), got, code, x.want, impl.ErrNone)
	}
}

// advancedByReference counts the slots of the whole cycle. It does not use the program.
func advancedByReference(s impl.State, duration int64, slots int64, rounds int64) impl.State {
	place := (s.Round*slots + s.Slot + 1) % (slots * rounds)
	s.Time += duration
	if s.Time >= 65536 {
		s.Time -= 65536
	}
	s.Slot, s.Round = place%slots, place/slots
	return s
}

// isBehind reports whether a slot and a round are not those of a cycle with as many slots and rounds.
func isBehind(s impl.State, slots int64, rounds int64) bool {
	return s.Slot >= slots || s.Round >= rounds
}

// Slots and rounds of all kinds are tried with states that stand in them, at their ends and behind them.
func TestAdvanceStateOfManyStates(t *testing.T) {
	behind, inside := 0, 0
	for i, s := range append(states(), mixedStates(500, 44)...) {
		for k, slots := range []int64{s.Slot, s.Slot + 1, s.Slot + 2, 1, 2, 16, 255, 256} {
			for m, rounds := range []int64{s.Round, s.Round + 1, s.Round + 2, 1, 2, 8, 15, 16} {
				duration := []int64{0, 1, 65535, 65535 - s.Time, s.Time}[(i+k+m)%5]
				want, wantCode := impl.State{}, int64(impl.ErrRange)
				if slots >= 1 && slots <= 256 && rounds >= 1 && rounds <= 16 && !isBehind(s, slots, rounds) {
					want, wantCode = advancedByReference(s, duration, slots, rounds), impl.ErrNone
					inside++
				} else {
					behind++
				}
				got, code := impl.AdvanceState(s, duration, slots, rounds)
				expectState(t, fmt.Sprint("AdvanceState ", s, duration, slots, rounds), got, code, want, wantCode)
			}
		}
	}
	if behind < 1000 || inside < 1000 {
		t.Errorf("%d states are behind their cycle, and %d stand in it", behind, inside)
	}
}

func TestAdvanceStateErrors(t *testing.T) {
	last := impl.State{Slot: 3, Round: 2}
	for _, x := range []struct {
		s                       impl.State
		duration, slots, rounds int64
	}{
		{last, -1, 4, 3},
		{last, 65536, 4, 3},
		{last, 65537, 4, 3},
		{last, 131071, 4, 3},
		{last, greatest, 4, 3},
		{last, least, 4, 3},
		{leastState, 0, 0, 3},
		{leastState, 0, -1, 3},
		{leastState, 0, 257, 3},
		{leastState, 0, 258, 3},
		{leastState, 0, 512, 3},
		{leastState, 0, greatest, 3},
		{leastState, 0, least, 3},
		{leastState, 0, 4, 0},
		{leastState, 0, 4, -1},
		{leastState, 0, 4, 17},
		{leastState, 0, 4, 18},
		{leastState, 0, 4, 32},
		{leastState, 0, 4, greatest},
		{leastState, 0, 4, least},
		{leastState, 0, 0, 0},
		{leastState, -1, 0, 0},
		{leastState, greatest, greatest, greatest},
		{leastState, least, least, least},
		{last, 0, 3, 3},
		{last, 0, 2, 3},
		{last, 0, 1, 3},
		{last, 0, 4, 2},
		{last, 0, 4, 1},
		{last, 0, 3, 2},
		{greatestState, 0, 255, 16},
		{greatestState, 0, 256, 15},
		{greatestState, 0, 257, 16},
		{greatestState, 0, 256, 17},
		{impl.State{Slot: 1}, 0, 1, 1},
		{impl.State{Round: 1}, 0, 1, 1},
	} {
		got, code := impl.AdvanceState(x.s, x.duration, x.slots, x.rounds)
		expectState(t, fmt.Sprint("AdvanceState ", x.s, x.duration, x.slots, x.rounds), got, code, impl.State{}, impl.ErrRange)
	}
}

// A state that is not valid is refused first, whatever the other arguments are.
func TestAdvanceStateOfInvalidStates(t *testing.T) {
	for _, s := range notStates() {
		for _, duration := range []int64{0, 65535, 65536, -1} {
			for _, size := range [][]int64{{256, 16}, {1, 1}, {0, 0}, {257, 17}, {greatest, least}} {
				got, code := impl.AdvanceState(s, duration, size[0], size[1])
				expectState(t, fmt.Sprint("AdvanceState ", s, duration, size), got, code, impl.State{}, impl.ErrInvalid)
			}
		}
	}
}

// advanced returns a state after steps slots whose durations come from a list, in turn, and the sum of these durations.
func advanced(t *testing.T, s impl.State, durations []int64, steps int64, slots int64, rounds int64) (impl.State, int64) {
	t.Helper()
	start, sum := s, int64(0)
	for i := range steps {
		duration := durations[i%int64(len(durations))]
		next, code := impl.AdvanceState(s, duration, slots, rounds)
		sum += duration
		if code != impl.ErrNone || !impl.IsState(next) {
			t.Fatalf("AdvanceState %d by %d in %d slots and %d rounds: %d, code %d", s, duration, slots, rounds, next, code)
		}
		if next.Mode != start.Mode || next.Members != start.Members {
			t.Fatalf("the step %d from %d has another mode or other members: %d", i, start, next)
		}
		if next.Time != (start.Time+sum)%65536 {
			t.Fatalf("the Time after the step %d from %d is %d, want %d more", i, start, next.Time, sum)
		}
		s = next
	}
	return s, sum
}

// checkCycle follows a state through its round and through its cycle.
func checkCycle(t *testing.T, s impl.State, durations []int64, slots int64, rounds int64) {
	t.Helper()
	round, _ := advanced(t, s, durations, slots, slots, rounds)
	if round.Slot != s.Slot || round.Round != (s.Round+1)%rounds {
		t.Errorf("%d is after %d slots of %d rounds at %d", s, slots, rounds, round)
	}
	cycle, sum := advanced(t, s, durations, slots*rounds, slots, rounds)
	want := s
	want.Time = (s.Time + sum) % 65536
	if cycle != want {
		t.Errorf("%d is after %d rounds of %d slots at %d, want %d", s, rounds, slots, cycle, want)
	}
}

// durationLists returns durations for the slots that follow each other.
func durationLists(seed uint64) [][]int64 {
	return [][]int64{{0}, {65535}, {1}, {0, 65535, 32768}, mixed(7, 65536, seed), mixed(11, 1001, seed)}
}

// Promise 4: for all small cycles and all places in them, a state is in its round again after as many slots as this has.
func TestSmallCyclesComeBack(t *testing.T) {
	for slots := int64(1); slots <= 6; slots++ {
		for rounds := int64(1); rounds <= 5; rounds++ {
			for place := range slots * rounds {
				s := impl.State{Time: 65500 + place, Mode: place % 16, Round: place / slots, Slot: place % slots, Members: 4294967295 - place}
				for _, durations := range durationLists(uint64(place) + 45) {
					checkCycle(t, s, durations, slots, rounds)
				}
			}
		}
	}
}

// Promise 4 for large cycles, the greatest one among them.
func TestLargeCyclesComeBack(t *testing.T) {
	for i, s := range append(mixedStates(40, 46), greatestState, leastState, middleState) {
		lists := durationLists(uint64(i) + 47)
		for _, slots := range []int64{s.Slot + 1, (s.Slot + 257) / 2, 256} {
			for k, rounds := range []int64{s.Round + 1, (s.Round + 17) / 2, 16} {
				checkCycle(t, s, lists[(i+k)%len(lists)], slots, rounds)
			}
		}
	}
}

// In a cycle every slot of every round is met once.
func TestCyclesMeetEverySlot(t *testing.T) {
	for _, size := range [][]int64{{1, 1}, {1, 16}, {256, 1}, {5, 3}, {256, 16}} {
		seen := map[impl.State]bool{}
		s := leastState
		for range size[0] * size[1] {
			if seen[s] || isBehind(s, size[0], size[1]) {
				t.Fatalf("the cycle %d meets %d twice, or it is not in the cycle", size, s)
			}
			seen[s] = true
			s, _ = impl.AdvanceState(s, 0, size[0], size[1])
		}
		if s != leastState {
			t.Errorf("the cycle %d ends at %d", size, s)
		}
	}
}

func TestStateDistance(t *testing.T) {
	for _, x := range []struct {
		a, b impl.State
		want int64
	}{
		{leastState, leastState, 0},
		{greatestState, greatestState, 0},
		{middleState, middleState, 0},
		{leastState, greatestState, 64},
		{middleState, impl.State{Time: 65535 - 300, Mode: 14, Round: 13, Slot: 252, Members: 4294967290}, 64},
		{middleState, impl.State{Time: 300, Mode: 1, Round: 2, Slot: 3, Members: 4}, 1},
		{leastState, middleState, 4 + 1 + 1 + 2 + 2},
		{leastState, impl.State{Time: 65535}, 16},
		{leastState, impl.State{Mode: 15}, 4},
		{leastState, impl.State{Round: 15}, 4},
		{leastState, impl.State{Slot: 255}, 8},
		{leastState, impl.State{Members: 4294967295}, 32},
		{impl.State{Time: 1}, impl.State{Mode: 1}, 2},
		{impl.State{Round: 7}, impl.State{Round: 8}, 4},
		{impl.State{Time: 32767}, impl.State{Time: 32768}, 16},
	} {
		got, code := impl.StateDistance(x.a, x.b)
		expectNumber(t, fmt.Sprint("StateDistance ", x.a, x.b), got, code, x.want, impl.ErrNone)
		got, code = impl.StateDistance(x.b, x.a)
		expectNumber(t, fmt.Sprint("StateDistance ", x.b, x.a), got, code, x.want, impl.ErrNone)
	}
}

func TestStateDistanceOfManyStates(t *testing.T) {
	list := append(states()[180:], mixedStates(50, 48)...)
	for _, a := range list {
		for _, b := range list {
			want := int64(0)
			one, other := bitsByReference(a), bitsByReference(b)
			for i := range one {
				if one[i] != other[i] {
					want++
				}
			}
			got, code := impl.StateDistance(a, b)
			expectNumber(t, fmt.Sprint("StateDistance ", a, b), got, code, want, impl.ErrNone)
		}
	}
}

func TestTimeBetween(t *testing.T) {
	for _, x := range []struct{ a, b, want int64 }{
		{0, 0, 0},
		{65535, 65535, 0},
		{300, 300, 0},
		{65530, 4, 10},
		{4, 65530, -10},
		{0, 1, 1},
		{1, 0, -1},
		{0, 65535, -1},
		{65535, 0, 1},
		{0, 32766, 32766},
		{0, 32767, 32767},
		{0, 32768, -32768},
		{0, 32769, -32767},
		{32766, 0, -32766},
		{32767, 0, -32767},
		{32768, 0, -32768},
		{32769, 0, 32767},
		{65535, 32766, 32767},
		{65535, 32767, -32768},
		{65535, 32768, -32767},
		{32767, 65534, 32767},
		{32767, 65535, -32768},
		{100, 40000, -25636},
		{40000, 100, 25636},
	} {
		got, code := impl.TimeBetween(impl.State{Time: x.a}, impl.State{Time: x.b})
		expectNumber(t, fmt.Sprint("TimeBetween ", x.a, " ", x.b), got, code, x.want, impl.ErrNone)
		// The other fields do not matter.
		got, code = impl.TimeBetween(impl.State{Time: x.a, Mode: 15, Slot: 255}, impl.State{Time: x.b, Round: 15, Members: 4294967295})
		expectNumber(t, fmt.Sprint("TimeBetween with other fields ", x.a, " ", x.b), got, code, x.want, impl.ErrNone)
	}
}

// All differences are tried from several times.
func TestTimeBetweenOfAllDifferences(t *testing.T) {
	for _, start := range []int64{0, 1, 300, 32767, 32768, 65535} {
		for difference := int64(-32768); difference <= 32767; difference++ {
			end := (start + difference + 65536) % 65536
			got, code := impl.TimeBetween(impl.State{Time: start}, impl.State{Time: end})
			expectNumber(t, fmt.Sprint("TimeBetween ", start, " ", end), got, code, difference, impl.ErrNone)
		}
	}
}

func TestErrorsOfTwoStates(t *testing.T) {
	for i, wrong := range notStates() {
		for _, other := range []impl.State{leastState, greatestState, middleState, wrong, notStates()[i/2]} {
			for _, pair := range [][2]impl.State{{wrong, other}, {other, wrong}} {
				got, code := impl.StateDistance(pair[0], pair[1])
				expectNumber(t, fmt.Sprint("StateDistance ", pair), got, code, 0, impl.ErrInvalid)
				got, code = impl.TimeBetween(pair[0], pair[1])
				expectNumber(t, fmt.Sprint("TimeBetween ", pair), got, code, 0, impl.ErrInvalid)
			}
		}
	}
}

func TestStateText(t *testing.T) {
	for text, s := range map[string]impl.State{
		"0/0/0/0/0":                  leastState,
		"65535/15/15/255/4294967295": greatestState,
		"300/1/2/3/5":                middleState,
		"1/0/0/0/0":                  {Time: 1},
		"0/10/0/0/0":                 {Mode: 10},
		"0/0/9/0/0":                  {Round: 9},
		"0/0/0/100/0":                {Slot: 100},
		"0/0/0/0/2147483648":         {Members: 1 << 31},
	} {
		if got := impl.StateText(s); got != text {
			t.Errorf("StateText %d: %q, want %q", s, got, text)
		}
		got, ok := impl.ReadState(text)
		if !ok || got != s {
			t.Errorf("ReadState %q: %d, %v, want %d", text, got, ok, s)
		}
	}
	for _, s := range states() {
		if got := impl.StateText(s); got != textByReference(s) {
			t.Errorf("StateText %d: %q, want %q", s, got, textByReference(s))
		}
	}
	for _, s := range notStates() {
		if got := impl.StateText(s); got != "" {
			t.Errorf("StateText %d: %q", s, got)
		}
	}
}

// statePattern describes five numbers without superfluous leading zeros.
var statePattern = regexp.MustCompile(`\A(0|[1-9][0-9]*)/(0|[1-9][0-9]*)/(0|[1-9][0-9]*)/(0|[1-9][0-9]*)/(0|[1-9][0-9]*)\z`)

// readByReference reads the text of a valid state. It does not use the program.
func readByReference(text string) (impl.State, bool) {
	parts := statePattern.FindStringSubmatch(text)
	if parts == nil {
		return impl.State{}, false
	}
	var fields []int64
	for i, part := range parts[1:] {
		number, err := strconv.ParseUint(part, 10, 64)
		if err != nil || number > uint64(stateFields[i].greatest) {
			return impl.State{}, false
		}
		fields = append(fields, int64(number))
	}
	return stateOf(fields), true
}

// checkRead compares what ReadState returns with the reference, and reports whether the text is that of a state.
func checkRead(t *testing.T, text string) bool {
	t.Helper()
	want, wantOk := readByReference(text)
	got, ok := impl.ReadState(text)
	if got != want || ok != wantOk {
		t.Errorf("ReadState %.80q: %d, %v, want %d, %v", text, got, ok, want, wantOk)
	}
	return ok
}

func expectRefused(t *testing.T, text string) {
	t.Helper()
	if got, ok := impl.ReadState(text); ok || got != (impl.State{}) {
		t.Errorf("ReadState %.80q: %d, %v", text, got, ok)
	}
}

func TestReadStateOfOtherTexts(t *testing.T) {
	for _, text := range []string{
		"", " ", "/", "//", "///", "////", "/////", "0", "0/0", "0/0/0", "0/0/0/0", "0/0/0/0/", "/0/0/0/0", "0/0/0/0/0/", "/0/0/0/0/0", "0/0/0/0/0/0", "0//0/0/0", "0/0//0/0", "0/0/0//0",
		"0/0/0/0/0\n", "0/0/0/0/0 ", " 0/0/0/0/0", "0 /0/0/0/0", "0/ 0/0/0/0", "0/0/0/0/0\x00", "\x000/0/0/0/0", "0/0/0/0/0\t", "0/0/0/0/0\r\n",
		"0-0-0-0-0", "0,0,0,0,0", "0 0 0 0 0", "0\\0\\0\\0\\0", "00000", "0.0/0/0/0/0", "1_0/0/0/0/0", "0x1/0/0/0/0", "0b1/0/0/0/0", "0o1/0/0/0/0", "1e1/0/0/0/0", "a/b/c/d/e", "nil",
		"０/0/0/0/0", "١/0/0/0/0", "0/0/0/0/０", "0／0／0／0／0", "\xff/0/0/0/0", "0/0/0/0/\x80",
		strings.Repeat("0/", 100), strings.Repeat("/", 100000), strings.Repeat("0", 100000), strings.Repeat("0", 100000) + "/0/0/0/0", "0/0/0/0/" + strings.Repeat("9", 100000),
	} {
		expectRefused(t, text)
		checkRead(t, text)
	}
}

// Each field is written in ways that are not its text, beside other fields at their ends.
func TestReadStateOfOtherFields(t *testing.T) {
	for _, base := range []impl.State{leastState, greatestState, middleState} {
		for i, f := range stateFields {
			number := strconv.FormatInt(fieldsOf(base)[i], 10)
			wrong := []string{"", "0" + number, "00" + number, "+" + number, "-" + number, "-1", "+0", "-0", " " + number, number + " ", "\t" + number, number + "\n", number + ".", number + ".0", "_" + number, number + "_", "0x" + number, "A", "F", number + "e0",
				strconv.FormatInt(f.greatest+1, 10), strconv.FormatInt(f.greatest*10+9, 10), strconv.FormatInt(least, 10), strconv.FormatInt(greatest, 10), "9223372036854775808", "18446744073709551615", "18446744073709551616", "18446744073709551617", "36893488147419103232", "99999999999999999999999999"}
			for _, text := range wrong {
				parts := strings.Split(textByReference(base), "/")
				parts[i] = text
				expectRefused(t, strings.Join(parts, "/"))
			}
			expectRefused(t, textByReference(stateOf(with(fieldsOf(base), i, -1))))
			for _, end := range []int64{0, f.greatest - 1, f.greatest} {
				if !checkRead(t, textByReference(stateOf(with(fieldsOf(base), i, end)))) {
					t.Errorf("ReadState of %d with the %s %d is false", base, f.name, end)
				}
			}
		}
	}
	for _, s := range notStates() {
		expectRefused(t, textByReference(s))
	}
}

// Texts with one byte more, one byte less or another byte are read only if they are the text of a state.
func TestReadStateOfTextsThatAreAlmostRight(t *testing.T) {
	read, refused := 0, 0
	try := func(text string) {
		if checkRead(t, text) {
			read++
		} else {
			refused++
		}
	}
	for _, s := range append(mixedStates(20, 49), leastState, greatestState, middleState, impl.State{Time: 10, Mode: 10, Round: 10, Slot: 10, Members: 10}) {
		text := textByReference(s)
		for i := range len(text) + 1 {
			for c := range 256 {
				try(text[:i] + string([]byte{byte(c)}) + text[i:])
				if i < len(text) {
					try(text[:i] + string([]byte{byte(c)}) + text[i+1:])
				}
			}
			if i < len(text) {
				try(text[:i] + text[i+1:])
				try(text[:i])
				try(text[i:])
			}
		}
	}
	if read < 500 || refused < 10000 {
		t.Errorf("%d texts are read, and %d refused", read, refused)
	}
}

func TestStatesLeaveMemoryAlone(t *testing.T) {
	lists := append(memoryLists(), repeated(0, 64), repeated(1, 64), mixed(64, 2, 50), mixed(63, 2, 51), mixed(65, 2, 52), with(repeated(1, 64), 63, 2))
	for _, list := range lists {
		checkMemory(t, "StateFromBits "+shortened(list), func(l [][]int64) []int64 {
			s, code := impl.StateFromBits(l[0])
			return append(fieldsOf(s), code)
		}, list)
	}
	for _, s := range []impl.State{leastState, greatestState, middleState, {Time: -1}} {
		checkMemory(t, fmt.Sprint("StateToBits ", s), func([][]int64) []int64 { return first(impl.StateToBits(s)) })
	}
}

// What is written into the bits of a state changes no later result.
func TestStateToBitsKeepsNothing(t *testing.T) {
	for _, s := range states() {
		bits, _ := impl.StateToBits(s)
		fill(bits[:cap(bits)], mark)
		again, code := impl.StateToBits(s)
		expectList(t, fmt.Sprint("StateToBits again ", s), again, code, bitsByReference(s), impl.ErrNone)
	}
}
