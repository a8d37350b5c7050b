package tests

import (
	"slices"
	"sync"
	"testing"

	"loop.example/g00833/impl"
)

// frameRounds are all numbers of rounds of a frame, which are also all Everys of a demand.
var frameRounds = []int64{1, 2, 4, 8}

const frameSlots = 16

// wrongPeriods are neither the number of rounds of a frame nor the Every of a demand.
func wrongPeriods() []int64 {
	list := []int64{0, 3, 16, 5, 6, 7, 9, 10, 12, 15, 17, 24, 32, 64, 256, 1 << 31, 1 << 32, 1<<32 + 1, 1<<32 + 8, 1 << 62, least, least + 1, least + 8, greatest, greatest - 7}
	for _, x := range frameRounds {
		list = append(list, -x)
	}
	return list
}

func wrongSlots() []int64 {
	return []int64{0, 17, -1, -16, -15, 18, 31, 32, 256, 1 << 31, 1 << 32, 1<<32 + 1, 1<<32 + 16, least, least + 1, least + 16, greatest, greatest - 1}
}

func wrongSizes() []int64 {
	return []int64{0, 33, -1, -32, 34, 64, 256, 1 << 31, 1 << 32, 1<<32 + 1, 1<<32 + 32, least, least + 1, least + 32, greatest, greatest - 1}
}

// demandsOf returns demands with these Everys, no two of which are equal. It does not use the program.
func demandsOf(everys ...int64) []impl.Demand {
	list := make([]impl.Demand, len(everys))
	for i, every := range everys {
		list[i] = impl.Demand{Node: int64(i*7) % 32, Every: every, Size: 1 + int64(i*5+i/32)%32}
	}
	return list
}

// drawnEverys returns size Everys, each of them one of the choices.
func drawnEverys(size int, choices []int64, seed uint64) []int64 {
	everys := make([]int64, size)
	for i, choice := range mixed(size, 1<<30, seed) {
		everys[i] = choices[int(choice)%len(choices)]
	}
	return everys
}

// everyChoices are sets of Everys from which lists are drawn, some with one Every more often than others.
func everyChoices() [][]int64 {
	return [][]int64{{1}, {2}, {4}, {8}, {1, 2}, {2, 4}, {4, 8}, {1, 8}, {2, 8}, {2, 4, 8}, {1, 2, 4, 8}, {1, 2, 2, 4, 4, 4, 8, 8, 8, 8, 8, 8}}
}

// manyEverys are the Everys of lists of all sizes, in no order.
var manyEverys = sync.OnceValue(func() [][]int64 {
	lists := [][]int64{nil}
	for i, size := range []int{1, 2, 3, 4, 6, 8, 9, 13, 16, 17, 21, 24, 30, 32, 33, 36, 39, 40} {
		for k, choices := range everyChoices() {
			lists = append(lists, drawnEverys(size, choices, uint64(i*100+k)+8000))
		}
	}
	return slices.Clip(lists)
})

// shortEverys are all lists of at most size Everys.
func shortEverys(size int) [][]int64 {
	lists := [][]int64{nil}
	for from := 0; size > 0; size-- {
		until := len(lists)
		for _, list := range lists[from:until] {
			for _, every := range frameRounds {
				lists = append(lists, append(slices.Clone(list), every))
			}
		}
		from = until
	}
	return lists
}

// fullEverys returns size Everys, none of them greater than rounds, that fill a frame of rounds without a free slot. They are in
// increasing order. There are at least slots of them and at most slots * rounds.
func fullEverys(rounds int64, slots int64, size int, seed uint64) []int64 {
	everys := repeated(1, int(slots))
	for _, choice := range mixed(4096, 1<<30, seed) {
		i := int(choice) % len(everys)
		if len(everys) < size && everys[i] < rounds {
			everys[i] *= 2
			everys = append(everys, everys[i])
		}
	}
	slices.Sort(everys)
	return everys
}

// isDemandByReference reports whether a demand is as described. It does not use the program.
func isDemandByReference(d impl.Demand) bool {
	return d.Node >= 0 && d.Node <= 31 && slices.Contains(frameRounds, d.Every) && d.Size >= 1 && d.Size <= 32
}

// areDemandsByReference does not use the program.
func areDemandsByReference(list []impl.Demand) bool {
	for _, d := range list {
		if !isDemandByReference(d) {
			return false
		}
	}
	return len(list) <= 40
}

// codeOfFrameByReference returns the error that all functions of a list and a frame have in common. It does not use the program.
func codeOfFrameByReference(list []impl.Demand, rounds int64, slots int64) int64 {
	if !areDemandsByReference(list) {
		return impl.ErrInvalid
	}
	if !slices.Contains(frameRounds, rounds) || slots < 1 || slots > frameSlots {
		return impl.ErrRange
	}
	return impl.ErrNone
}

// roundsOfBooking returns the rounds of a frame in which a booking gives a demand its slot. It does not use the program.
func roundsOfBooking(d impl.Demand, b impl.Booking, rounds int64) []int64 {
	var list []int64
	for round := range rounds {
		if round%d.Every == b.Phase {
			list = append(list, round)
		}
	}
	return list
}

// sharedRounds returns in how many rounds two demands get the same slot. It does not use the program.
func sharedRounds(d impl.Demand, b impl.Booking, e impl.Demand, c impl.Booking, rounds int64) int {
	if b.Slot != c.Slot {
		return 0
	}
	count := 0
	others := roundsOfBooking(e, c, rounds)
	for _, round := range roundsOfBooking(d, b, rounds) {
		if slices.Contains(others, round) {
			count++
		}
	}
	return count
}

// arePossibleByReference compares each booking with each other one. It does not use the program.
func arePossibleByReference(list []impl.Demand, rounds int64, slots int64, bookings []impl.Booking) bool {
	if codeOfFrameByReference(list, rounds, slots) != impl.ErrNone || len(bookings) != len(list) {
		return false
	}
	for i, d := range list {
		b := bookings[i]
		if d.Every > rounds || b.Slot < 0 || b.Slot > slots-1 || b.Phase < 0 || b.Phase > d.Every-1 {
			return false
		}
		for k := range i {
			if sharedRounds(d, b, list[k], bookings[k], rounds) > 0 {
				return false
			}
		}
	}
	return true
}

// planByReference searches all slots and phases for the first booking of each demand, in a frame in which it crosses off what is
// given. It does not use the program.
func planByReference(list []impl.Demand, rounds int64, slots int64) ([]impl.Booking, int64) {
	if code := codeOfFrameByReference(list, rounds, slots); code != impl.ErrNone {
		return nil, code
	}
	var given [frameSlots]uint8
	var bookings []impl.Booking
	for _, d := range list {
		b, found := firstBookingByReference(d, rounds, slots, &given)
		if !found {
			return nil, impl.ErrNotFound
		}
		bookings = append(bookings, b)
	}
	return bookings, impl.ErrNone
}

// firstBookingByReference crosses off the rounds of the first booking, whose bits are set in the number of its slot.
func firstBookingByReference(d impl.Demand, rounds int64, slots int64, given *[frameSlots]uint8) (impl.Booking, bool) {
	if d.Every > rounds {
		return impl.Booking{}, false
	}
	for slot := range slots {
		for phase := range d.Every {
			var wanted uint8
			for round := phase; round < rounds; round += d.Every {
				wanted |= 1 << round
			}
			if given[slot]&wanted == 0 {
				given[slot] |= wanted
				return impl.Booking{Slot: slot, Phase: phase}, true
			}
		}
	}
	return impl.Booking{}, false
}

// planTableByReference asks for each slot of each round whose it is. It does not use the program.
func planTableByReference(list []impl.Demand, rounds int64, slots int64, bookings []impl.Booking) ([][]int64, int64) {
	if code := codeOfFrameByReference(list, rounds, slots); code != impl.ErrNone {
		return nil, code
	}
	if !arePossibleByReference(list, rounds, slots, bookings) {
		return nil, impl.ErrState
	}
	var table [][]int64
	for round := range rounds {
		row := repeated(-1, int(slots))
		for index, b := range bookings {
			if round%list[index].Every == b.Phase {
				row[b.Slot] = int64(index)
			}
		}
		table = append(table, row)
	}
	return table, impl.ErrNone
}

// neededByReference tries all numbers of slots. It does not use the program.
func neededByReference(list []impl.Demand, rounds int64) (int64, int64) {
	if code := codeOfFrameByReference(list, rounds, 1); code != impl.ErrNone {
		return 0, code
	}
	for slots := int64(1); slots <= frameSlots; slots++ {
		if _, code := planByReference(list, rounds, slots); code == impl.ErrNone {
			return slots, impl.ErrNone
		}
	}
	return 0, impl.ErrNotFound
}

// loadByReference counts the rounds in eight in which each demand wants a slot. It does not use the program.
func loadByReference(list []impl.Demand) (int64, int64) {
	if !areDemandsByReference(list) {
		return 0, impl.ErrInvalid
	}
	load := 0
	for _, d := range list {
		load += len(roundsOfBooking(d, impl.Booking{}, 8))
	}
	return int64(load), impl.ErrNone
}

// sortedByReference takes the demands of one Every after those of another. It does not use the program.
func sortedByReference(list []impl.Demand) ([]impl.Demand, int64) {
	if !areDemandsByReference(list) {
		return nil, impl.ErrInvalid
	}
	var sorted []impl.Demand
	for _, every := range frameRounds {
		for _, d := range list {
			if d.Every == every {
				sorted = append(sorted, d)
			}
		}
	}
	return sorted, impl.ErrNone
}

// greatestEvery returns the greatest Every of a list, or 0 if it is empty.
func greatestEvery(list []impl.Demand) int64 {
	every := int64(0)
	for _, d := range list {
		every = max(every, d.Every)
	}
	return every
}

// expectDemands fails the test if AreDemands does not say this. It is called so often that the call is named only in a failure, as
// are those below.
func expectDemands(t *testing.T, list []impl.Demand, want bool) {
	t.Helper()
	if got := impl.AreDemands(list); got != want {
		t.Errorf("AreDemands %d is %v", list, got)
	}
}

func expectPlan(t *testing.T, list []impl.Demand, rounds int64, slots int64, want []impl.Booking, wantCode int64) {
	t.Helper()
	if got, code := impl.PlanDemands(list, rounds, slots); !slices.Equal(got, want) || code != wantCode {
		t.Errorf("PlanDemands %d %d %d: %d, code %d, want %d, code %d", list, rounds, slots, got, code, want, wantCode)
	}
}

func expectPossible(t *testing.T, list []impl.Demand, rounds int64, slots int64, bookings []impl.Booking, want bool) {
	t.Helper()
	if got := impl.ArePossible(list, rounds, slots, bookings); got != want {
		t.Errorf("ArePossible %d %d %d %d is %v", list, rounds, slots, bookings, got)
	}
}

func sameRows(a [][]int64, b [][]int64) bool { return slices.EqualFunc(a, b, slices.Equal[[]int64]) }

func expectPlanTable(t *testing.T, list []impl.Demand, rounds int64, slots int64, bookings []impl.Booking, want [][]int64, wantCode int64) {
	t.Helper()
	if got, code := impl.PlanTable(list, rounds, slots, bookings); !sameRows(got, want) || code != wantCode {
		t.Errorf("PlanTable %d %d %d %d: %d, code %d, want %d, code %d", list, rounds, slots, bookings, got, code, want, wantCode)
	}
}

func expectNeeded(t *testing.T, list []impl.Demand, rounds int64, want int64, wantCode int64) {
	t.Helper()
	if got, code := impl.SlotsNeeded(list, rounds); got != want || code != wantCode {
		t.Errorf("SlotsNeeded %d %d: %d, code %d, want %d, code %d", list, rounds, got, code, want, wantCode)
	}
}

func expectLoad(t *testing.T, list []impl.Demand, want int64, wantCode int64) {
	t.Helper()
	if got, code := impl.LoadOf(list); got != want || code != wantCode {
		t.Errorf("LoadOf %d: %d, code %d, want %d, code %d", list, got, code, want, wantCode)
	}
}

func expectSorted(t *testing.T, list []impl.Demand, want []impl.Demand, wantCode int64) {
	t.Helper()
	if got, code := impl.SortDemands(list); !slices.Equal(got, want) || code != wantCode {
		t.Errorf("SortDemands %d: %d, code %d, want %d, code %d", list, got, code, want, wantCode)
	}
}

// expectBookings fails the test if ArePossible or PlanTable does not return what the references return of these bookings. It
// reports whether they are possible.
func expectBookings(t *testing.T, list []impl.Demand, rounds int64, slots int64, bookings []impl.Booking) bool {
	t.Helper()
	possible := arePossibleByReference(list, rounds, slots, bookings)
	expectPossible(t, list, rounds, slots, bookings, possible)
	table, code := planTableByReference(list, rounds, slots, bookings)
	expectPlanTable(t, list, rounds, slots, bookings, table, code)
	return possible
}

// checkFrame compares the functions of a list and a frame with the references, and returns the code of PlanDemands.
func checkFrame(t *testing.T, list []impl.Demand, rounds int64, slots int64) int64 {
	t.Helper()
	bookings, code := planByReference(list, rounds, slots)
	expectPlan(t, list, rounds, slots, bookings, code)
	if possible := expectBookings(t, list, rounds, slots, bookings); possible != (code == impl.ErrNone) {
		t.Errorf("the plan of %d %d %d is possible: %v", list, rounds, slots, possible)
	}
	return code
}

// checkList compares the functions of a list alone with the references.
func checkList(t *testing.T, list []impl.Demand) {
	t.Helper()
	expectDemands(t, list, areDemandsByReference(list))
	load, code := loadByReference(list)
	expectLoad(t, list, load, code)
	sorted, code := sortedByReference(list)
	expectSorted(t, list, sorted, code)
	for _, rounds := range frameRounds {
		needed, code := neededByReference(list, rounds)
		expectNeeded(t, list, rounds, needed, code)
	}
}

// expectFrameRefused fails the test if a function of a list and a frame does not return an error and nothing else.
func expectFrameRefused(t *testing.T, list []impl.Demand, rounds int64, slots int64, wantCode int64) {
	t.Helper()
	expectPlan(t, list, rounds, slots, nil, wantCode)
	plan, _ := planByReference(list, 8, frameSlots)
	for _, bookings := range [][]impl.Booking{nil, {}, {{}}, plan, slices.Repeat([]impl.Booking{{}}, len(list)), {{Slot: -1}}, {{Phase: greatest}, {Slot: least}}} {
		expectPossible(t, list, rounds, slots, bookings, false)
		expectPlanTable(t, list, rounds, slots, bookings, nil, wantCode)
	}
}

// expectDemandsRefused fails the test if a function does not say first that a list does not consist of demands, whatever else it is
// called with.
func expectDemandsRefused(t *testing.T, list []impl.Demand) {
	t.Helper()
	expectDemands(t, list, false)
	expectLoad(t, list, 0, impl.ErrInvalid)
	expectSorted(t, list, nil, impl.ErrInvalid)
	for i, rounds := range []int64{8, 1, 0, 3, 16, -1, least, greatest} {
		expectNeeded(t, list, rounds, 0, impl.ErrInvalid)
		expectFrameRefused(t, list, rounds, []int64{16, 1, 0, 17, 4, -1, greatest, least}[i], impl.ErrInvalid)
	}
}

// The numbers are worked out by hand.
func TestPlansByHand(t *testing.T) {
	list := demandsOf(8, 2, 1, 4, 4, 8, 2)
	bookings := []impl.Booking{{Slot: 0, Phase: 0}, {Slot: 0, Phase: 1}, {Slot: 1, Phase: 0}, {Slot: 0, Phase: 2}, {Slot: 2, Phase: 0}, {Slot: 0, Phase: 4}, {Slot: 2, Phase: 1}}
	expectPlan(t, list, 8, 3, bookings, impl.ErrNone)
	expectPlan(t, list, 8, 2, nil, impl.ErrNotFound)
	expectPlan(t, list, 4, 16, nil, impl.ErrNotFound)
	expectPossible(t, list, 8, 3, bookings, true)
	expectPossible(t, list, 8, 2, bookings, false)
	expectPlanTable(t, list, 8, 4, bookings, [][]int64{
		{0, 2, 4, -1}, {1, 2, 6, -1}, {3, 2, -1, -1}, {1, 2, 6, -1}, {5, 2, 4, -1}, {1, 2, 6, -1}, {3, 2, -1, -1}, {1, 2, 6, -1},
	}, impl.ErrNone)
	expectNeeded(t, list, 8, 3, impl.ErrNone)
	expectNeeded(t, list, 4, 0, impl.ErrNotFound)
	expectLoad(t, list, 22, impl.ErrNone)
	expectSorted(t, list, []impl.Demand{list[2], list[1], list[6], list[3], list[4], list[0], list[5]}, impl.ErrNone)
	sorted := []impl.Booking{{Slot: 0, Phase: 0}, {Slot: 1, Phase: 0}, {Slot: 1, Phase: 1}, {Slot: 2, Phase: 0}, {Slot: 2, Phase: 1}, {Slot: 2, Phase: 2}, {Slot: 2, Phase: 3}}
	expectPlan(t, withoutCode(impl.SortDemands(list)), 8, 3, sorted, impl.ErrNone)
}

func withoutCode[T any](list []T, _ int64) []T { return list }

// There are plans of no demand in all frames, and they need the least number of slots that a frame has.
func TestPlansOfNoDemand(t *testing.T) {
	for _, list := range [][]impl.Demand{nil, {}, make([]impl.Demand, 0, 8)} {
		expectDemands(t, list, true)
		expectLoad(t, list, 0, impl.ErrNone)
		expectSorted(t, list, nil, impl.ErrNone)
		for _, rounds := range frameRounds {
			expectNeeded(t, list, rounds, 1, impl.ErrNone)
			for slots := int64(1); slots <= frameSlots; slots++ {
				expectPlan(t, list, rounds, slots, nil, impl.ErrNone)
				for _, bookings := range [][]impl.Booking{nil, {}} {
					expectPossible(t, list, rounds, slots, bookings, true)
					expectPlanTable(t, list, rounds, slots, bookings, slices.Repeat([][]int64{repeated(-1, int(slots))}, int(rounds)), impl.ErrNone)
				}
				expectPossible(t, list, rounds, slots, []impl.Booking{{}}, false)
				expectPlanTable(t, list, rounds, slots, []impl.Booking{{}}, nil, impl.ErrState)
			}
		}
	}
}

// checkPromise13 fails the test if planning of a sorted list fails though it may not, or if what it returns is not right, and
// returns its code.
func checkPromise13(t *testing.T, list []impl.Demand, rounds int64, slots int64) int64 {
	t.Helper()
	sorted := withoutCode(impl.SortDemands(list))
	load, _ := impl.LoadOf(list)
	bookings, code := impl.PlanDemands(sorted, rounds, slots)
	want := int64(impl.ErrNone)
	// This says more than the promise: with too great a load there are not enough slots, so planning fails always then.
	if load > 8*slots || greatestEvery(list) > rounds {
		want = impl.ErrNotFound
	}
	if code != want || (code != impl.ErrNone && len(bookings) > 0) {
		t.Errorf("PlanDemands %d %d %d with the load %d: %d, code %d", sorted, rounds, slots, load, bookings, code)
	}
	checkFrame(t, sorted, rounds, slots)
	if code == impl.ErrNone {
		expectShares(t, sorted, rounds, slots, bookings)
	}
	if needed, neededCode := impl.SlotsNeeded(sorted, rounds); (code == impl.ErrNone) != (neededCode == impl.ErrNone && slots >= needed) {
		t.Errorf("SlotsNeeded %d %d: %d, code %d, but planning with %d: code %d", sorted, rounds, needed, neededCode, slots, code)
	}
	return code
}

// expectShares fails the test if the table of bookings does not give each demand a slot in each Every-th round, the rounds of its
// Phase, and all others to nobody.
func expectShares(t *testing.T, list []impl.Demand, rounds int64, slots int64, bookings []impl.Booking) {
	t.Helper()
	table, code := impl.PlanTable(list, rounds, slots, bookings)
	var all []int64
	for _, row := range table {
		all = append(all, row...)
		if int64(len(row)) != slots {
			t.Errorf("PlanTable %d %d %d has a round of %d slots", list, rounds, slots, len(row))
		}
	}
	free := rounds * slots
	for index, d := range list {
		share := countOf(all, int64(index))
		free -= share
		if share != rounds/d.Every {
			t.Errorf("PlanTable %d %d %d gives %d slots to the demand %d", list, rounds, slots, share, index)
		}
	}
	if code != impl.ErrNone || int64(len(table)) != rounds || countOf(all, -1) != free {
		t.Errorf("PlanTable %d %d %d has %d rounds and %d free slots, code %d", list, rounds, slots, len(table), countOf(all, -1), code)
	}
}

func countOf(list []int64, wanted int64) int64 {
	count := int64(0)
	for _, element := range list {
		if element == wanted {
			count++
		}
	}
	return count
}

func TestPromise13(t *testing.T) {
	codes := map[int64]int{}
	for _, everys := range manyEverys() {
		list := demandsOf(everys...)
		for _, rounds := range frameRounds {
			for slots := int64(1); slots <= frameSlots; slots++ {
				codes[checkPromise13(t, list, rounds, slots)]++
			}
		}
	}
	if codes[impl.ErrNone] < 1000 || codes[impl.ErrNotFound] < 1000 {
		t.Errorf("the codes are %v", codes)
	}
}

// All short lists in small frames, in which many loads are just too great or just not.
func TestPromise13OfShortLists(t *testing.T) {
	just := map[int64]int{}
	for _, everys := range shortEverys(6) {
		if !slices.IsSorted(everys) {
			continue
		}
		list := demandsOf(everys...)
		for _, rounds := range frameRounds {
			for slots := int64(1); slots <= 6; slots++ {
				checkPromise13(t, list, rounds, slots)
				load, _ := loadByReference(list)
				just[load-8*slots]++
			}
		}
	}
	if just[0] < 50 || just[1] < 20 || just[-1] < 20 {
		t.Errorf("loads that differ from eight times the slots by so much: %v", just)
	}
}

// Lists whose load is just eight times the slots fill all slots, and with one demand more, as seldom as the frame lets it be, they
// cannot be planned.
func TestPromise13OfFullFrames(t *testing.T) {
	longest := 0
	for _, rounds := range frameRounds {
		for slots := int64(1); slots <= frameSlots; slots++ {
			for _, size := range []int{0, int(slots) + 1, min(int(slots*rounds)/2, 38), 39, 40} {
				everys := fullEverys(rounds, slots, size, uint64(rounds*1000+slots)+8100+uint64(size))
				list := demandsOf(everys...)
				expectLoad(t, list, 8*slots, impl.ErrNone)
				if code := checkPromise13(t, list, rounds, slots); code != impl.ErrNone {
					t.Errorf("planning %d %d %d: code %d", list, rounds, slots, code)
				}
				expectNeeded(t, list, rounds, slots, impl.ErrNone)
				longest = max(longest, len(list))
				if len(list) < 40 {
					checkOneMore(t, demandsOf(append(everys, rounds)...), rounds, slots)
				}
			}
		}
	}
	if longest != 40 {
		t.Errorf("the longest list has %d demands", longest)
	}
}

// checkOneMore fails the test if a list that needs one slot more than a frame has can be planned with it.
func checkOneMore(t *testing.T, list []impl.Demand, rounds int64, slots int64) {
	t.Helper()
	expectLoad(t, list, 8*slots+8/rounds, impl.ErrNone)
	expectPlan(t, list, rounds, slots, nil, impl.ErrNotFound)
	if slots == frameSlots {
		expectNeeded(t, list, rounds, 0, impl.ErrNotFound)
		return
	}
	expectNeeded(t, list, rounds, slots+1, impl.ErrNone)
	checkPromise13(t, list, rounds, slots+1)
}

// mixedEverys are Everys that fill a frame or leave few slots free, in no order.
func mixedEverys() [][]int64 {
	var lists [][]int64
	for slots := int64(1); slots <= frameSlots; slots++ {
		for i, rounds := range frameRounds[1:] {
			seed := uint64(slots*10) + uint64(i) + 8150
			everys := shuffled(fullEverys(rounds, slots, 40-int(slots)/2, seed), seed+200)
			lists = append(lists, everys, everys[1:], everys[:len(everys)-1])
		}
	}
	return lists
}

// The order of a list matters: its plans are those of the search, and some fail though the load is small.
func TestPlansOfUnsortedLists(t *testing.T) {
	codes, small := map[int64]int{}, 0
	for _, everys := range slices.Concat(manyEverys(), mixedEverys()) {
		list := demandsOf(everys...)
		checkList(t, list)
		for _, rounds := range frameRounds {
			for slots := int64(1); slots <= frameSlots; slots++ {
				code := checkFrame(t, list, rounds, slots)
				codes[code]++
				if code == impl.ErrNotFound && isSmallLoad(list, rounds, slots) {
					small++
				}
			}
		}
	}
	if codes[impl.ErrNone] < 1000 || codes[impl.ErrNotFound] < 1000 || small < 20 {
		t.Errorf("the codes are %v, and %d plans fail with a small load", codes, small)
	}
}

// isSmallLoad reports whether there are enough slots for all demands of a list.
func isSmallLoad(list []impl.Demand, rounds int64, slots int64) bool {
	load, _ := loadByReference(list)
	return load <= 8*slots && greatestEvery(list) <= rounds
}

func TestPlansOfAllShortLists(t *testing.T) {
	small := 0
	for _, everys := range shortEverys(5) {
		list := demandsOf(everys...)
		checkList(t, list)
		for _, rounds := range frameRounds {
			for slots := int64(1); slots <= 4; slots++ {
				code := checkFrame(t, list, rounds, slots)
				if code == impl.ErrNotFound && isSmallLoad(list, rounds, slots) {
					small++
				}
			}
		}
	}
	if small < 50 {
		t.Errorf("%d plans fail with a small load", small)
	}
}

// Unsorted lists that cannot be planned though their load is small. The frames are worked out by hand.
func TestPlansThatFailWithASmallLoad(t *testing.T) {
	for _, x := range []struct {
		everys                      []int64
		rounds, slots, load, needed int64
	}{
		{[]int64{8, 4, 2}, 8, 1, 7, 2},
		{[]int64{8, 8, 2}, 8, 1, 6, 2},
		{[]int64{8, 8, 8, 8, 4}, 8, 1, 6, 2},
		{[]int64{4, 4, 2}, 8, 1, 8, 2},
		{[]int64{4, 4, 2}, 4, 1, 8, 2},
		{[]int64{4, 4, 2, 1}, 4, 2, 16, 3},
		{append([]int64{8, 8, 2}, repeated(1, 15)...), 8, 16, 126, 0},
	} {
		list := demandsOf(x.everys...)
		expectLoad(t, list, x.load, impl.ErrNone)
		expectPlan(t, list, x.rounds, x.slots, nil, impl.ErrNotFound)
		wantCode := int64(impl.ErrNone)
		if x.needed == 0 {
			wantCode = impl.ErrNotFound
		}
		expectNeeded(t, list, x.rounds, x.needed, wantCode)
		checkFrame(t, list, x.rounds, max(x.needed, x.slots))
		if code := checkPromise13(t, list, x.rounds, x.slots); code != impl.ErrNone {
			t.Errorf("planning %d when it is sorted: code %d", list, code)
		}
	}
}

// A demand whose Every is greater than the rounds gets no booking, wherever it stands and however many slots are free.
func TestPlansOfTooFewRounds(t *testing.T) {
	for _, rounds := range frameRounds {
		for _, every := range frameRounds {
			want, wantCode := []impl.Booking{{}}, int64(impl.ErrNone)
			if every > rounds {
				want, wantCode = nil, impl.ErrNotFound
			}
			for slots := int64(1); slots <= frameSlots; slots++ {
				expectPlan(t, demandsOf(every), rounds, slots, want, wantCode)
				expectBookings(t, demandsOf(every), rounds, slots, []impl.Booking{{}})
			}
			expectNeeded(t, demandsOf(every), rounds, int64(len(want)), wantCode)
			for place := range 5 {
				list := demandsOf(slices.Insert([]int64{1, 1, 1, 1}, place, every)...)
				checkList(t, list)
				if code := checkFrame(t, list, rounds, 16); code != wantCode {
					t.Errorf("planning %d in %d rounds: code %d", list, rounds, code)
				}
			}
		}
	}
}

// Forty demands are planned, and of many that want each round just as many as there are slots.
func TestPlansOfManyDemands(t *testing.T) {
	for _, rounds := range frameRounds {
		list := demandsOf(repeated(rounds, 40)...)
		slots := (40 + rounds - 1) / rounds
		if slots > frameSlots {
			expectNeeded(t, list, rounds, 0, impl.ErrNotFound)
			expectPlan(t, list, rounds, frameSlots, nil, impl.ErrNotFound)
			continue
		}
		var want []impl.Booking
		for i := range int64(40) {
			want = append(want, impl.Booking{Slot: i / rounds, Phase: i % rounds})
		}
		expectNeeded(t, list, rounds, slots, impl.ErrNone)
		expectPlan(t, list, rounds, slots, want, impl.ErrNone)
		expectPlan(t, list, rounds, frameSlots, want, impl.ErrNone)
		expectPlan(t, list, rounds, slots-1, nil, impl.ErrNotFound)
		expectBookings(t, list, rounds, slots, want)
	}
	for _, rounds := range frameRounds {
		expectNeeded(t, demandsOf(repeated(1, 16)...), rounds, 16, impl.ErrNone)
		expectNeeded(t, demandsOf(repeated(1, 17)...), rounds, 0, impl.ErrNotFound)
		expectNeeded(t, demandsOf(repeated(1, 15)...), rounds, 15, impl.ErrNone)
	}
	expectNeeded(t, demandsOf(repeated(2, 32)...), 2, 16, impl.ErrNone)
	expectNeeded(t, demandsOf(repeated(2, 33)...), 2, 0, impl.ErrNotFound)
	expectNeeded(t, demandsOf(repeated(2, 33)...), 1, 0, impl.ErrNotFound)
	expectLoad(t, demandsOf(repeated(1, 40)...), 320, impl.ErrNone)
	expectLoad(t, demandsOf(repeated(8, 40)...), 40, impl.ErrNone)
}

// The size of a demand, its node and that of others do not matter for its booking.
func TestPlansOfEqualDemands(t *testing.T) {
	for _, d := range []impl.Demand{{Node: 0, Every: 4, Size: 1}, {Node: 31, Every: 4, Size: 32}, {Node: 5, Every: 4, Size: 9}} {
		list := slices.Repeat([]impl.Demand{d}, 6)
		expectDemands(t, list, true)
		expectPlan(t, list, 4, 2, []impl.Booking{{}, {Phase: 1}, {Phase: 2}, {Phase: 3}, {Slot: 1}, {Slot: 1, Phase: 1}}, impl.ErrNone)
		expectSorted(t, list, list, impl.ErrNone)
		checkList(t, list)
	}
}

// Demands with the same Every remain in their order, also if they are many and differ in all ways, in which they rise and fall.
func TestSortingKeepsTheOrder(t *testing.T) {
	for seed := range uint64(60) {
		list := demandsOf(drawnEverys(40, everyChoices()[seed%12], seed+8200)...)
		if seed%3 == 1 {
			slices.Reverse(list)
		}
		if seed%3 == 2 {
			for i, x := range shuffled(rising(1024), seed+8210)[:40] {
				list[i].Node, list[i].Size = x/32, x%32+1
			}
		}
		want, _ := sortedByReference(list)
		expectSorted(t, list, want, impl.ErrNone)
		expectSorted(t, want, want, impl.ErrNone)
		for i := 1; i < len(want); i++ {
			if want[i-1].Every == want[i].Every && slices.Index(list, want[i-1]) > slices.Index(list, want[i]) {
				t.Errorf("the reference changes the order of %d", list)
			}
		}
	}
}

// wrongDemands are demands that are none by one field alone, or by all.
func wrongDemands() []impl.Demand {
	var list []impl.Demand
	for i, every := range frameRounds {
		d := impl.Demand{Node: []int64{0, 31, 7, 16}[i], Every: every, Size: []int64{1, 32, 9, 16}[i]}
		for _, node := range notNodes() {
			list = append(list, impl.Demand{Node: node, Every: d.Every, Size: d.Size})
		}
		for _, period := range wrongPeriods() {
			list = append(list, impl.Demand{Node: d.Node, Every: period, Size: d.Size})
		}
		for _, size := range wrongSizes() {
			list = append(list, impl.Demand{Node: d.Node, Every: d.Every, Size: size})
		}
	}
	return append(list, impl.Demand{}, impl.Demand{Node: -1, Every: -1, Size: -1}, impl.Demand{Node: 32, Every: 16, Size: 33},
		impl.Demand{Node: least, Every: least, Size: least}, impl.Demand{Node: greatest, Every: greatest, Size: greatest})
}

func TestDemandsOfAllFields(t *testing.T) {
	for node := int64(-3); node <= 35; node++ {
		for every := int64(-9); every <= 18; every++ {
			for _, size := range []int64{-1, 0, 1, 2, 17, 31, 32, 33} {
				d := impl.Demand{Node: node, Every: every, Size: size}
				want := isDemandByReference(d)
				expectDemands(t, []impl.Demand{d}, want)
				if want {
					checkList(t, []impl.Demand{d, d})
				}
			}
		}
	}
	for _, d := range []impl.Demand{{Node: 0, Every: 1, Size: 1}, {Node: 31, Every: 8, Size: 32}, {Node: 31, Every: 2, Size: 1}, {Node: 0, Every: 4, Size: 32}} {
		expectDemands(t, []impl.Demand{d}, true)
		expectLoad(t, []impl.Demand{d}, 8/d.Every, impl.ErrNone)
	}
}

// One wrong demand, alone or at any place of a list, makes it one that does not consist of demands.
func TestListsWithWrongDemands(t *testing.T) {
	for i, d := range wrongDemands() {
		if isDemandByReference(d) {
			t.Errorf("%d is a demand", d)
		}
		expectDemandsRefused(t, []impl.Demand{d})
		for _, size := range []int{1, 7, 39} {
			for _, place := range []int{0, i % (size + 1), size} {
				expectDemandsRefused(t, slices.Insert(demandsOf(drawnEverys(size, frameRounds, uint64(i))...), place, d))
			}
		}
	}
}

// Forty demands are a list, and forty-one are none, whatever they are.
func TestListsOfTooManyDemands(t *testing.T) {
	for i, choices := range everyChoices() {
		everys := drawnEverys(41, choices, uint64(i)+8300)
		expectDemands(t, demandsOf(everys[:40]...), true)
		checkList(t, demandsOf(everys[:40]...))
		for _, size := range []int{41, 42, 64, 80, 256, 1000} {
			expectDemandsRefused(t, demandsOf(drawnEverys(size, choices, uint64(i)+8310)...))
		}
	}
	expectDemandsRefused(t, slices.Repeat([]impl.Demand{{Node: 1, Every: 8, Size: 1}}, 41))
	expectDemandsRefused(t, slices.Repeat([]impl.Demand{{Node: -1, Every: 3, Size: 0}}, 41))
}

// plansOfErrors are lists with all kinds of plans: none, short and long ones, and those that fail.
func plansOfErrors() [][]impl.Demand {
	return [][]impl.Demand{nil, demandsOf(1), demandsOf(8), demandsOf(8, 4, 2), demandsOf(1, 2, 2, 4), demandsOf(repeated(1, 17)...), demandsOf(drawnEverys(40, frameRounds, 8320)...)}
}

func TestFramesThatAreNone(t *testing.T) {
	for _, list := range plansOfErrors() {
		for _, rounds := range wrongPeriods() {
			expectNeeded(t, list, rounds, 0, impl.ErrRange)
			for _, slots := range append(wrongSlots(), 1, 2, 8, 16) {
				expectFrameRefused(t, list, rounds, slots, impl.ErrRange)
			}
		}
		for _, rounds := range frameRounds {
			for _, slots := range wrongSlots() {
				expectFrameRefused(t, list, rounds, slots, impl.ErrRange)
			}
		}
	}
}

// The errors come in their order: a list that does not consist of demands before a frame that is none, and this before a demand that
// gets no booking and bookings that are not possible.
func TestPlanErrors(t *testing.T) {
	wrong, tooLong := []impl.Demand{{Node: 0, Every: 3, Size: 1}}, demandsOf(repeated(8, 41)...)
	unplanned := demandsOf(repeated(1, 17)...)
	for _, x := range []struct {
		list          []impl.Demand
		rounds, slots int64
		code          int64
	}{
		{wrong, 3, 17, impl.ErrInvalid},
		{wrong, 8, 17, impl.ErrInvalid},
		{wrong, 0, 1, impl.ErrInvalid},
		{wrong, 1, 1, impl.ErrInvalid},
		{tooLong, 16, 0, impl.ErrInvalid},
		{tooLong, 4, 0, impl.ErrInvalid},
		{tooLong, -1, 16, impl.ErrInvalid},
		{tooLong, 8, 16, impl.ErrInvalid},
		{append(unplanned, wrong...), 3, 17, impl.ErrInvalid},
		{unplanned, 3, 17, impl.ErrRange},
		{unplanned, 8, 17, impl.ErrRange},
		{unplanned, 8, 0, impl.ErrRange},
		{unplanned, 16, 16, impl.ErrRange},
		{demandsOf(8), 3, 1, impl.ErrRange},
		{demandsOf(8), 4, 0, impl.ErrRange},
	} {
		expectFrameRefused(t, x.list, x.rounds, x.slots, x.code)
	}
	for _, x := range []struct {
		list   []impl.Demand
		rounds int64
		code   int64
	}{
		{wrong, 3, impl.ErrInvalid},
		{wrong, 1, impl.ErrInvalid},
		{tooLong, 0, impl.ErrInvalid},
		{tooLong, 4, impl.ErrInvalid},
		{append(unplanned, wrong...), 3, impl.ErrInvalid},
		{unplanned, 3, impl.ErrRange},
		{demandsOf(8), 16, impl.ErrRange},
		{unplanned, 8, impl.ErrNotFound},
		{demandsOf(8), 4, impl.ErrNotFound},
	} {
		expectNeeded(t, x.list, x.rounds, 0, x.code)
	}
	for _, bookings := range [][]impl.Booking{nil, {{}}, {{Slot: -1}}, {{}, {}}} {
		expectPlanTable(t, demandsOf(8), 4, 16, bookings, nil, impl.ErrState)
		expectPlanTable(t, demandsOf(1, 1), 4, 16, bookings, nil, impl.ErrState)
		expectPlanTable(t, demandsOf(1, 1), 4, 17, bookings, nil, impl.ErrRange)
		expectPlanTable(t, demandsOf(1, 1), 5, 16, bookings, nil, impl.ErrRange)
		expectPlanTable(t, wrong, 5, 17, bookings, nil, impl.ErrInvalid)
	}
	expectPlan(t, unplanned, 8, 16, nil, impl.ErrNotFound)
	expectPlan(t, demandsOf(1, 8), 4, 16, nil, impl.ErrNotFound)
}

// All bookings of two demands, some outside the frame: those are possible that share a slot in no round.
func TestBookingsOfTwoDemands(t *testing.T) {
	sharing := map[string]int{}
	for _, everys := range shortEverys(2)[5:] {
		list := demandsOf(everys...)
		for _, rounds := range frameRounds {
			for _, one := range bookingsAround(everys[0]) {
				for _, other := range bookingsAround(everys[1]) {
					possible := expectBookings(t, list, rounds, 2, []impl.Booking{one, other})
					shared := sharedRounds(list[0], one, list[1], other, rounds)
					switch {
					case possible:
						sharing["none, possible"]++
					case one.Slot != other.Slot || shared == 0:
						sharing["none, not possible"]++
					case shared == 1:
						sharing["one"]++
					case shared == int(rounds):
						sharing["all"]++
					default:
						sharing["some"]++
					}
				}
			}
		}
	}
	for _, kind := range []string{"none, possible", "none, not possible", "one", "some", "all"} {
		if sharing[kind] < 10 {
			t.Errorf("bookings that share a slot in so many rounds: %v", sharing)
		}
	}
}

// bookingsAround returns all bookings of a demand in a frame of two slots, and those just outside.
func bookingsAround(every int64) []impl.Booking {
	var list []impl.Booking
	for slot := int64(-1); slot <= 2; slot++ {
		for phase := int64(-1); phase <= every; phase++ {
			list = append(list, impl.Booking{Slot: slot, Phase: phase})
		}
	}
	return list
}

// wrongNumbers are not below a limit or not at least 0.
func wrongNumbers(limit int64) []int64 {
	return []int64{-1, limit, -2, limit + 1, -limit, limit + 8, limit + 16, 128, 256, 1 << 31, 1 << 32, 1<<32 + 1, 1 << 60, 1 << 62, least, least + 1, least + limit, greatest, greatest - 1, greatest - 7}
}

// withBooking returns a copy of bookings with another one at an index.
func withBooking(bookings []impl.Booking, index int, b impl.Booking) []impl.Booking {
	other := slices.Clone(bookings)
	other[index] = b
	return other
}

// Plans in which the Slot or the Phase of one booking is below 0 or too great, by little and by much.
func TestBookingsOutsideTheFrame(t *testing.T) {
	for i, everys := range [][]int64{{1}, {8}, {1, 2, 4, 8}, {8, 4, 4, 2, 1}, {2, 2, 2, 4, 4, 4, 8, 8}, fullEverys(8, 16, 40, 8400), fullEverys(8, 9, 20, 8401)} {
		list := demandsOf(everys...)
		needed, _ := neededByReference(list, 8)
		for _, slots := range []int64{needed, (needed + 16) / 2, 16} {
			plan, _ := planByReference(list, 8, slots)
			for k, b := range plan {
				if (i+k)%3 > 0 && k > 3 {
					continue
				}
				for _, slot := range wrongNumbers(slots) {
					expectBookings(t, list, 8, slots, withBooking(plan, k, impl.Booking{Slot: slot, Phase: b.Phase}))
				}
				for _, phase := range wrongNumbers(list[k].Every) {
					expectBookings(t, list, 8, slots, withBooking(plan, k, impl.Booking{Slot: b.Slot, Phase: phase}))
				}
				expectBookings(t, list, 8, slots, withBooking(plan, k, impl.Booking{Slot: least, Phase: greatest}))
			}
			expectBookings(t, list, 8, slots, plan)
		}
	}
}

// Bookings of which some are missing, or which are more than the demands, are not possible, even if each of them is.
func TestBookingsOfAnotherNumber(t *testing.T) {
	for _, everys := range [][]int64{{1}, {8}, {2, 2}, {1, 2, 4, 8}, fullEverys(8, 9, 20, 8410), repeated(8, 40)} {
		list := demandsOf(everys...)
		plan, _ := planByReference(list, 8, 16)
		expectPossible(t, list, 8, 16, plan, true)
		for size := range plan {
			expectPossible(t, list, 8, 16, plan[:size], false)
			expectPlanTable(t, list, 8, 16, plan[:size], nil, impl.ErrState)
			expectPossible(t, list[:size], 8, 16, plan, false)
			expectPlanTable(t, list[:size], 8, 16, plan, nil, impl.ErrState)
			expectPossible(t, list, 8, 16, plan[1:], false)
		}
		for _, extra := range []impl.Booking{{}, {Slot: 15}, {Slot: 15, Phase: 7}, {Slot: -1}, {Slot: greatest, Phase: least}} {
			for _, count := range []int{1, 2, 40, 300} {
				more := slices.Concat(plan, slices.Repeat([]impl.Booking{extra}, count))
				expectPossible(t, list, 8, 16, more, false)
				expectPlanTable(t, list, 8, 16, more, nil, impl.ErrState)
			}
		}
	}
}

// looseBookings returns possible bookings of a list in which the demands are given slots in another order, and the slots and phases
// have been exchanged, or nil if these demands get none in this order.
func looseBookings(list []impl.Demand, rounds int64, slots int64, seed uint64) []impl.Booking {
	order := shuffled(rising(len(list)), seed)
	places := shuffled(rising(int(slots)), seed+1)
	turn := mixed(1, 8, seed+2)[0]
	var other []impl.Demand
	for _, index := range order {
		other = append(other, list[index])
	}
	plan, _ := planByReference(other, rounds, slots)
	if len(plan) < len(list) {
		return nil
	}
	bookings := make([]impl.Booking, len(list))
	for k, index := range order {
		bookings[index] = impl.Booking{Slot: places[plan[k].Slot], Phase: (plan[k].Phase + turn) % list[index].Every}
	}
	return bookings
}

// Bookings that planning does not give are possible too, and those that differ from them in one number often are not.
func TestBookingsOfAllKinds(t *testing.T) {
	possible, not, other := 0, 0, 0
	for i, everys := range manyEverys() {
		list, seed := demandsOf(everys...), uint64(i)*31+8500
		for _, rounds := range frameRounds {
			for _, slots := range []int64{1, 2, 5, 9, 13, 16} {
				bookings := looseBookings(list, rounds, slots, seed)
				if len(bookings) == 0 {
					continue
				}
				if !expectBookings(t, list, rounds, slots, bookings) {
					t.Errorf("%d %d %d %d should be possible", list, rounds, slots, bookings)
				}
				if plan, _ := planByReference(list, rounds, slots); !slices.Equal(plan, bookings) {
					other++
				}
				for _, changed := range changedBookings(list, slots, bookings, seed) {
					if expectBookings(t, list, rounds, slots, changed) {
						possible++
					} else {
						not++
					}
				}
			}
		}
	}
	if possible < 500 || not < 500 || other < 500 {
		t.Errorf("%d bookings are possible, and %d are not; %d are no plans", possible, not, other)
	}
}

// changedBookings returns bookings that differ from some in one of them, in two that are exchanged or in a number that is drawn.
func changedBookings(list []impl.Demand, slots int64, bookings []impl.Booking, seed uint64) [][]impl.Booking {
	var all [][]impl.Booking
	draws := mixed(24, 1<<30, seed)
	for k := range 4 {
		index := int(draws[6*k]) % len(list)
		b := bookings[index]
		all = append(all,
			withBooking(bookings, index, impl.Booking{Slot: draws[6*k+1] % slots, Phase: b.Phase}),
			withBooking(bookings, index, impl.Booking{Slot: b.Slot, Phase: draws[6*k+2] % list[index].Every}),
			withBooking(bookings, index, impl.Booking{Slot: b.Slot, Phase: b.Phase + 1}),
			withBooking(bookings, index, impl.Booking{Slot: b.Slot + 1, Phase: b.Phase}),
			withBooking(bookings, index, bookings[int(draws[6*k+3])%len(list)]),
			slices.Delete(slices.Clone(bookings), index, index+1),
			slices.Insert(slices.Clone(bookings), index, b),
		)
		other := int(draws[6*k+4]) % len(list)
		all = append(all, withBooking(withBooking(bookings, index, bookings[other]), other, b))
	}
	return all
}

// The table has the slots that are free at any place, and each demand's index in the rounds of its Phase.
func TestTablesByHand(t *testing.T) {
	list := demandsOf(4, 1, 2)
	bookings := []impl.Booking{{Slot: 3, Phase: 2}, {Slot: 1}, {Slot: 3, Phase: 1}}
	expectPlanTable(t, list, 4, 5, bookings, [][]int64{{-1, 1, -1, -1, -1}, {-1, 1, -1, 2, -1}, {-1, 1, -1, 0, -1}, {-1, 1, -1, 2, -1}}, impl.ErrNone)
	expectPlanTable(t, list, 8, 4, bookings, [][]int64{
		{-1, 1, -1, -1}, {-1, 1, -1, 2}, {-1, 1, -1, 0}, {-1, 1, -1, 2}, {-1, 1, -1, -1}, {-1, 1, -1, 2}, {-1, 1, -1, 0}, {-1, 1, -1, 2},
	}, impl.ErrNone)
	expectPlanTable(t, list, 4, 3, bookings, nil, impl.ErrState)
	expectPlanTable(t, list, 2, 5, bookings, nil, impl.ErrState)
	expectPlanTable(t, demandsOf(1), 1, 1, []impl.Booking{{}}, [][]int64{{0}}, impl.ErrNone)
	expectPlanTable(t, demandsOf(1), 1, 16, []impl.Booking{{Slot: 15}}, [][]int64{append(repeated(-1, 15), 0)}, impl.ErrNone)
	expectPlanTable(t, demandsOf(8), 8, 1, []impl.Booking{{Phase: 7}}, [][]int64{{-1}, {-1}, {-1}, {-1}, {-1}, {-1}, {-1}, {0}}, impl.ErrNone)
	expectPlanTable(t, demandsOf(2, 2), 2, 1, []impl.Booking{{Phase: 1}, {}}, [][]int64{{1}, {0}}, impl.ErrNone)
}

// planCall is a list, a frame and bookings with which all functions of the chapter are called.
type planCall struct {
	list          []impl.Demand
	rounds, slots int64
	bookings      []impl.Booking
}

// planCalls are such as succeed and such as fail, for all reasons.
func planCalls() []planCall {
	calls := []planCall{
		{nil, 8, 16, nil},
		{[]impl.Demand{}, 1, 1, []impl.Booking{}},
		{demandsOf(1), 3, 1, []impl.Booking{{}}},
		{demandsOf(1), 1, 17, []impl.Booking{{}}},
		{demandsOf(8, 4, 1), 4, 16, []impl.Booking{{}, {}, {}}},
		{demandsOf(8, 2, 3), 8, 16, []impl.Booking{{}, {Slot: 1}, {Slot: 2}}},
		{demandsOf(8, 2, 1), 8, 16, []impl.Booking{{Slot: 16}, {Slot: least}, {Phase: greatest}}},
		{demandsOf(repeated(8, 41)...), 8, 16, slices.Repeat([]impl.Booking{{}}, 41)},
	}
	for _, everys := range [][]int64{{1}, {8, 4, 2, 1}, {2, 1, 2, 1}, shuffled(fullEverys(8, 5, 20, 8600), 8601), shuffled(fullEverys(4, 16, 40, 8602), 8603), repeated(8, 40)} {
		for _, rounds := range []int64{4, 8} {
			for _, slots := range []int64{3, 16} {
				list := demandsOf(everys...)
				plan, _ := planByReference(list, rounds, slots)
				calls = append(calls, planCall{list, rounds, slots, plan}, planCall{list, rounds, slots, looseBookings(list, rounds, slots, 8610)})
			}
		}
	}
	return calls
}

// check compares all functions with the references.
func (c planCall) check(t *testing.T) {
	t.Helper()
	checkList(t, c.list)
	checkFrame(t, c.list, c.rounds, c.slots)
	expectBookings(t, c.list, c.rounds, c.slots, c.bookings)
}

// The same call answers the same each time, whatever has been called before it.
func TestPlansAnswerTheSame(t *testing.T) {
	calls := planCalls()
	for range 20 {
		for _, c := range calls {
			c.check(t)
		}
		slices.Reverse(calls)
	}
}

func TestPlansFromSeveralGoroutines(t *testing.T) {
	calls := planCalls()
	var group sync.WaitGroup
	for worker := range 8 {
		group.Go(func() {
			for i := range calls {
				calls[(i*(worker+1)+worker)%len(calls)].check(t)
				calls[i].check(t)
			}
		})
	}
	group.Wait()
}

var (
	markedDemand  = impl.Demand{Node: mark, Every: mark, Size: mark}
	markedBooking = impl.Booking{Slot: mark, Phase: mark}
)

// guardedPlan is a call whose lists stand between marks, as parts of longer arrays.
type guardedPlan struct {
	planCall
	demands      []impl.Demand
	booked       []impl.Booking
	wantDemands  []impl.Demand
	wantBookings []impl.Booking
}

func guardPlan(c planCall) guardedPlan {
	g := guardedPlan{planCall: c}
	g.list, g.demands = guardTable(c.list, markedDemand)
	g.bookings, g.booked = guardTable(c.bookings, markedBooking)
	g.wantDemands, g.wantBookings = slices.Clone(g.demands), slices.Clone(g.booked)
	return g
}

// expectUntouched fails the test if a list or the memory around it has been changed.
func (g guardedPlan) expectUntouched(t *testing.T, what string) {
	t.Helper()
	if !slices.Equal(g.demands, g.wantDemands) || !slices.Equal(g.booked, g.wantBookings) {
		t.Errorf("%s changed %d or %d or the memory around them", what, g.list, g.bookings)
	}
}

// overwrite writes marks to both lists.
func (g guardedPlan) overwrite() {
	fillAll(g.demands, markedDemand)
	fillAll(g.booked, markedBooking)
}

// No function changes a list or the spare capacity behind it, whether it succeeds or fails.
func TestPlansLeaveMemoryAlone(t *testing.T) {
	for _, c := range planCalls() {
		g := guardPlan(c)
		g.check(t)
		g.expectUntouched(t, "a call")
	}
}

// expectOwnPlan fails the test if the result of a call shares memory with an argument or with another result. It returns how many
// elements the result has.
func expectOwnPlan[T comparable](t *testing.T, name string, c planCall, marked T, call func(c planCall) []T) int {
	t.Helper()
	g := guardPlan(c)
	one, other := call(g.planCall), call(g.planCall)
	want := slices.Clone(one)
	if !slices.Equal(one, other) {
		t.Errorf("%s %d: a second call returned another result", name, c)
	}
	fillAll(other, marked)
	if !slices.Equal(one, want) {
		t.Errorf("%s %d: two results share memory", name, c)
	}
	g.expectUntouched(t, name+": writing to the result")
	if again := call(g.planCall); !slices.Equal(again, want) {
		t.Errorf("%s %d: writing to the result changed a later one", name, c)
	}
	g.overwrite()
	if !slices.Equal(one, want) {
		t.Errorf("%s %d: the result shares memory with an argument", name, c)
	}
	return len(want)
}

func TestPlansReturnNewMemory(t *testing.T) {
	plans, sorted := 0, 0
	for _, c := range planCalls() {
		plans += expectOwnPlan(t, "PlanDemands", c, markedBooking, func(c planCall) []impl.Booking {
			return withoutCode(impl.PlanDemands(c.list, c.rounds, c.slots))
		})
		sorted += expectOwnPlan(t, "SortDemands", c, markedDemand, func(c planCall) []impl.Demand { return withoutCode(impl.SortDemands(c.list)) })
		for round := range 8 {
			expectOwnPlan(t, "PlanTable", c, mark, func(c planCall) []int64 {
				if table, _ := impl.PlanTable(c.list, c.rounds, c.slots, c.bookings); round < len(table) {
					return table[round]
				}
				return nil
			})
		}
	}
	if plans < 100 || sorted < 100 {
		t.Errorf("there are %d bookings and %d demands in all results", plans, sorted)
	}
}

// Writing to one list of a table, or to the table itself, changes no other list.
func TestTablesShareNoMemory(t *testing.T) {
	written := 0
	for _, c := range planCalls() {
		want, _ := planTableByReference(c.list, c.rounds, c.slots, c.bookings)
		for round := range want {
			table, _ := impl.PlanTable(c.list, c.rounds, c.slots, c.bookings)
			later, _ := impl.PlanTable(c.list, c.rounds, c.slots, c.bookings)
			fillAll(table[round], mark)
			for k, row := range table {
				if k != round && !slices.Equal(row, want[k]) {
					t.Errorf("PlanTable %d: the lists %d and %d share memory", c, round, k)
				}
			}
			fillAll(table, nil)
			if !sameRows(later, want) {
				t.Errorf("PlanTable %d: two results share memory", c)
			}
			written++
		}
	}
	if written < 50 {
		t.Errorf("%d lists have been written to", written)
	}
}
