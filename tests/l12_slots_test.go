package tests

import (
	"fmt"
	"slices"
	"strings"
	"sync"
	"testing"

	"loop.example/g00833/impl"
)

// places is the number of slots that a valid entry may be for. They are numbered in the order of a slot table.
const places = 16 * 8 * 16

// slotAt returns the entry for a place.
func slotAt(place int64, d impl.Descriptor) impl.SlotInfo {
	return impl.SlotInfo{Mode: place / 128, Round: place / 16 % 8, Slot: place % 16, Desc: d}
}

// placeOf returns the place for which an entry is, or -1 if it is for none.
func placeOf(x impl.SlotInfo) int64 {
	if x.Mode < 0 || x.Mode > 15 || x.Round < 0 || x.Round > 7 || x.Slot < 0 || x.Slot > 15 {
		return -1
	}
	return (x.Mode*8+x.Round)*16 + x.Slot
}

// validDescriptors remembers what the reference says of a descriptor, as the tests ask for the same ones often.
var validDescriptors = map[impl.Descriptor]bool{}

// isSlotByReference reports whether an entry of a slot table is valid. It does not use the program.
func isSlotByReference(x impl.SlotInfo) bool {
	if _, ok := validDescriptors[x.Desc]; !ok {
		validDescriptors[x.Desc] = isDescriptorByReference(x.Desc)
	}
	return placeOf(x) >= 0 && validDescriptors[x.Desc]
}

// isSlotTableByReference reports whether a list is a slot table. It does not use the program.
func isSlotTableByReference(table []impl.SlotInfo) bool {
	before := int64(-1)
	for _, x := range table {
		if placeOf(x) <= before || !isSlotByReference(x) {
			return false
		}
		before = placeOf(x)
	}
	return len(table) <= 120
}

// bytesOfSlots returns the bytes of a list of entries, valid or not, with the number of entries that it is told. It does not
// use the program.
func bytesOfSlots(count int, table []impl.SlotInfo) []int64 {
	bytes := []int64{int64(count)}
	for _, x := range table {
		d := x.Desc
		bytes = append(bytes, x.Mode*16+x.Round, x.Slot, d.Node, d.Kind*64+d.Size, d.Duration/256, d.Duration%256)
		bytes = append(bytes, truth(d.Change)...)
	}
	return bytes
}

// isNoByte reports whether a number is no byte.
func isNoByte(value int64) bool { return value < 0 || value > 255 }

// slotsByReference returns what ReadSlotTable returns for a list. It does not use the program.
func slotsByReference(list []int64) ([]impl.SlotInfo, int64, int64) {
	if len(list) > 1024 || slices.ContainsFunc(list, isNoByte) {
		return nil, 0, impl.ErrRange
	}
	if len(list) == 0 || int64(len(list)) < 1+7*list[0] {
		return nil, 0, impl.ErrSyntax
	}
	table := []impl.SlotInfo{}
	for entry := range slices.Chunk(list[1:1+7*list[0]], 7) {
		d := impl.Descriptor{Node: entry[2], Kind: entry[3] / 64, Size: entry[3] % 64, Duration: entry[4]*256 + entry[5], Change: entry[6] == 1}
		table = append(table, impl.SlotInfo{Mode: entry[0] / 16, Round: entry[0] % 16, Slot: entry[1], Desc: d})
	}
	size := 1 + 7*len(table)
	if !isSlotTableByReference(table) || !slices.Equal(bytesOfSlots(len(table), table), list[:size]) {
		return nil, 0, impl.ErrSyntax
	}
	return table, int64(size), impl.ErrNone
}

// comparedByReference returns what CompareSlots returns. It does not use the program.
func comparedByReference(a impl.SlotInfo, b impl.SlotInfo) int64 {
	for _, pair := range [][2]int64{{a.Mode, b.Mode}, {a.Round, b.Round}, {a.Slot, b.Slot}} {
		if pair[0] < pair[1] {
			return -1
		}
		if pair[0] > pair[1] {
			return 1
		}
	}
	return 0
}

// sortedSlots returns a copy of a list of entries, valid or not, in the order of a slot table.
func sortedSlots(table []impl.SlotInfo) []impl.SlotInfo {
	other := slices.Clone(table)
	slices.SortStableFunc(other, func(a impl.SlotInfo, b impl.SlotInfo) int { return int(comparedByReference(a, b)) })
	return other
}

// insertedByReference returns what InsertSlot returns. It does not use the program.
func insertedByReference(table []impl.SlotInfo, x impl.SlotInfo) ([]impl.SlotInfo, int64) {
	isTaken := func(y impl.SlotInfo) bool { return placeOf(x) == placeOf(y) }
	switch {
	case !isSlotTableByReference(table):
		return nil, impl.ErrInvalid
	case !isSlotByReference(x):
		return nil, impl.ErrRange
	case slices.ContainsFunc(table, isTaken):
		return nil, impl.ErrState
	case len(table) == 120:
		return nil, impl.ErrLimit
	}
	return sortedSlots(append(slices.Clone(table), x)), impl.ErrNone
}

// slotDescriptors are valid descriptors of each kind with each size, with the least and the greatest Duration and others at
// the ends of a byte, and with and without Change.
var slotDescriptors = sync.OnceValue(func() []impl.Descriptor {
	var list []impl.Descriptor
	for _, x := range shapes() {
		start := leastDuration(x)
		for _, change := range changesOf(x.kind) {
			for _, duration := range []int64{start, start + 1, 500, 511, 512, 767, 768, 999, 1000} {
				node := int64(len(list)) * 5 % 32
				list = append(list, impl.Descriptor{Node: node, Kind: x.kind, Size: x.size, Duration: duration, Change: change})
			}
		}
	}
	return list
})

// drawnDescriptors returns size valid descriptors of nodes below a limit that follow no simple pattern.
func drawnDescriptors(size int, limit int64, seed uint64) []impl.Descriptor {
	which, nodes := mixed(size, int64(len(slotDescriptors())), seed), mixed(size, limit, seed+1)
	list := make([]impl.Descriptor, size)
	for i := range list {
		list[i] = withNode(slotDescriptors()[which[i]], nodes[i])
	}
	return list
}

// tableAt returns the entries for some places, with drawn descriptors of nodes below a limit. It is a slot table if the
// places are strictly increasing and at most 120.
func tableAt(list []int64, limit int64, seed uint64) []impl.SlotInfo {
	descriptors := drawnDescriptors(len(list), limit, seed)
	table := make([]impl.SlotInfo, len(list))
	for i, place := range list {
		table[i] = slotAt(place, descriptors[i])
	}
	return table
}

// drawnPlaces returns size places, strictly increasing.
func drawnPlaces(size int, seed uint64) []int64 {
	list := shuffled(rising(places), seed)[:size]
	slices.Sort(list)
	return list
}

// drawnSlots returns a slot table of a size, at most 120, that follows no simple pattern.
func drawnSlots(size int, limit int64, seed uint64) []impl.SlotInfo {
	return tableAt(drawnPlaces(size, seed+2), limit, seed)
}

// stepped returns at most 120 places from a first one on.
func stepped(start int64, step int64) []int64 {
	var list []int64
	for place := start; place < places && len(list) < 120; place += step {
		list = append(list, place)
	}
	return list
}

// plannedPlaces returns the places of tables with a plan. By a step of 1 places differ in Slot, by 16 in Round and not in Slot,
// and by 128 in Mode alone; by 15, 17, 111, 127, 129 and others Round and Slot grow, stay or become less with a greater Mode.
func plannedPlaces() [][]int64 {
	list := [][]int64{
		nil, {0}, {places - 1}, {0, places - 1}, {0, 1}, {0, 16}, {0, 128}, {15, 16}, {127, 128}, {15, 128}, {112, 128}, {0, 17}, {0, 145}, {1, 16}, {1, 128}, {17, 128}, {17, 144}, {127, 1920},
		{places - 2, places - 1}, {places - 17, places - 1}, {places - 129, places - 1}, {places - 16, places - 1}, {places - 128, places - 1},
		{0, 1, 16, 17, 128, 129, 144, 145}, {15, 31, 127, 143, 255, 2047},
	}
	for _, step := range []int64{1, 2, 3, 5, 7, 8, 13, 15, 16, 17, 31, 32, 33, 64, 111, 112, 113, 127, 128, 129, 143, 144, 145, 256, 1023, 1024, 1025} {
		list = append(list, stepped(0, step), stepped(1, step), stepped(max(places-120*step, (places-1)%step), step))
	}
	return list
}

// consecutivePlaces returns all places, in parts of at most 120.
func consecutivePlaces() [][]int64 { return slices.Collect(slices.Chunk(rising(places), 120)) }

// someSlotTables returns a few slot tables of different sizes.
func someSlotTables() [][]impl.SlotInfo {
	d := impl.Descriptor{Node: 1, Kind: impl.FrameNormal, Size: 1, Duration: 100}
	list := [][]impl.SlotInfo{
		nil, {},
		{slotAt(0, impl.Descriptor{Duration: 81})},
		{slotAt(places-1, impl.Descriptor{Node: 31, Kind: impl.FrameData, Size: 32, Duration: 1000, Change: true})},
		{slotAt(0, d), slotAt(2, d)},
		{slotAt(0, d), slotAt(16, d), slotAt(128, withNode(d, 2))},
		tableAt(rising(120), 32, 310), tableAt(stepped(places-120, 1), 3, 312), tableAt(stepped(7, 17), 32, 314), tableAt(stepped(0, 128), 2, 316),
	}
	for i, size := range []int{1, 2, 3, 5, 8, 13, 31, 32, 64, 100, 118, 119, 120} {
		list = append(list, drawnSlots(size, 32, uint64(i)*3+318))
	}
	return list
}

// manySlotTables returns many slot tables of each number of entries.
func manySlotTables() [][]impl.SlotInfo {
	list := someSlotTables()
	for i, planned := range slices.Concat(plannedPlaces(), consecutivePlaces()) {
		list = append(list, tableAt(planned, 32, uint64(i)+360))
	}
	for size := range 121 {
		for i, limit := range []int64{1, 2, 7, 32} {
			list = append(list, drawnSlots(size, limit, uint64(size*4+i)+480))
		}
	}
	return list
}

// withSlot returns a copy of a table with another entry at an index.
func withSlot(table []impl.SlotInfo, index int, x impl.SlotInfo) []impl.SlotInfo {
	other := slices.Clone(table)
	other[index] = x
	return other
}

// withoutSlot returns a copy of a table without the entry at an index.
func withoutSlot(table []impl.SlotInfo, index int) []impl.SlotInfo {
	return slices.Delete(slices.Clone(table), index, index+1)
}

// notSlotNumbers returns numbers that are not in 0..limit - 1. Some of them end with the bits of a number that is.
func notSlotNumbers(limit int64) []int64 {
	list := []int64{-1, limit, -2, limit + 1, -limit, 1 - limit, 2 * limit, 2*limit - 1, 127, 128, 255, 256, 257, 256 + limit - 1, -256, 1 << 16, 1 << 32, 1<<32 + 1, -1 << 32, 1 << 60, 1 << 61, least, least + 1, greatest - 1, greatest}
	if limit == 8 {
		list = append(list, 10, 15, 16, 17)
	}
	return list
}

// notPlaces returns copies of an entry with a Mode, a Round or a Slot that is not in its range, and with several of them.
func notPlaces(x impl.SlotInfo) []impl.SlotInfo {
	var list []impl.SlotInfo
	for _, mode := range notSlotNumbers(16) {
		list = append(list, impl.SlotInfo{Mode: mode, Round: x.Round, Slot: x.Slot, Desc: x.Desc})
	}
	for _, round := range notSlotNumbers(8) {
		list = append(list, impl.SlotInfo{Mode: x.Mode, Round: round, Slot: x.Slot, Desc: x.Desc})
	}
	for _, slot := range notSlotNumbers(16) {
		list = append(list, impl.SlotInfo{Mode: x.Mode, Round: x.Round, Slot: slot, Desc: x.Desc})
	}
	return append(list,
		impl.SlotInfo{Mode: 16, Round: 8, Slot: 16, Desc: x.Desc}, impl.SlotInfo{Mode: -1, Round: -1, Slot: -1, Desc: x.Desc},
		impl.SlotInfo{Mode: least, Round: greatest, Slot: least, Desc: x.Desc}, impl.SlotInfo{Mode: greatest, Round: greatest, Slot: greatest, Desc: x.Desc})
}

// edgeNotDescriptors returns descriptors that are not valid in one field each, at its ends, and two that are so in several.
func edgeNotDescriptors() []impl.Descriptor {
	normal := impl.Descriptor{Node: 1, Kind: impl.FrameNormal, Size: 1, Duration: 100}
	return []impl.Descriptor{
		{}, withNode(normal, -1), withNode(normal, 32), withNode(normal, least), withNode(normal, greatest),
		withShape(normal, -1, 0), withShape(normal, 4, 0), withShape(normal, least, 1), withShape(normal, greatest, 1),
		withShape(withDuration(normal, 1000), 0, -1), withShape(withDuration(normal, 1000), 0, 33), withShape(withDuration(normal, 1000), 1, 1),
		withShape(withDuration(normal, 1000), 2, 0), withShape(withDuration(normal, 1000), 3, 1), withShape(normal, 0, least), withShape(normal, 0, greatest),
		withDuration(normal, 90), withDuration(normal, 0), withDuration(normal, -1), withDuration(normal, 1001), withDuration(normal, least), withDuration(normal, greatest),
		{Node: 2, Kind: impl.FrameInit, Duration: 150}, {Node: 2, Kind: impl.FrameCold, Duration: 150}, {Node: 2, Kind: impl.FrameCold, Duration: 151, Change: true},
		{Node: 2, Kind: impl.FrameData, Size: 32, Duration: 480}, {Node: 32, Kind: 4, Size: 33, Duration: 1001, Change: true},
	}
}

// threeIndices returns the first, a middle and the last index of a table with an entry.
func threeIndices(table []impl.SlotInfo) []int {
	list := []int{0, len(table) / 2, len(table) - 1}
	return slices.Compact(list)
}

// wrongSlotEntries returns lists of sorted entries of which one is not valid.
func wrongSlotEntries() [][]impl.SlotInfo {
	list := [][]impl.SlotInfo{{{}}}
	for i, table := range [][]impl.SlotInfo{drawnSlots(1, 32, 320), drawnSlots(3, 32, 322), drawnSlots(120, 32, 324), tableAt(rising(120), 32, 326)} {
		descriptors := edgeNotDescriptors()
		if i < 2 {
			descriptors = append(descriptors, notDescriptors()...)
		}
		for _, index := range threeIndices(table) {
			x := table[index]
			for _, other := range notPlaces(x) {
				list = append(list, sortedSlots(withSlot(table, index, other)))
			}
			for _, d := range descriptors {
				list = append(list, withSlot(table, index, impl.SlotInfo{Mode: x.Mode, Round: x.Round, Slot: x.Slot, Desc: d}))
			}
		}
	}
	return list
}

// wrongSlotOrders returns lists of valid entries that are not sorted, or of which two are for the same slot.
func wrongSlotOrders() [][]impl.SlotInfo {
	var list [][]impl.SlotInfo
	for i, order := range [][]int64{
		{0, 0}, {places - 1, places - 1}, {500, 500}, {1, 0}, {16, 0}, {128, 0}, {15, 14}, {112, 96}, {1920, 1792}, {places - 1, 0}, {16, 15}, {128, 127}, {16, 1}, {128, 17}, {145, 17}, {145, 144}, {145, 129}, {144, 17},
		{0, 1, 1}, {0, 0, 1}, {0, 1, 0}, {1, 0, 2}, {0, 2, 1}, {2, 1, 0}, {1, 2, 0}, {0, 16, 16}, {0, 32, 16}, {16, 0, 32}, {0, 128, 128}, {0, 256, 128}, {128, 0, 256}, {0, 128, 0}, {0, 16, 128, 17}, {0, 128, 16, 144},
	} {
		table := tableAt(order, 32, uint64(i)+328)
		same := slices.Clone(table)
		for k := range same {
			same[k].Desc = table[0].Desc
		}
		list = append(list, table, same)
	}
	// In longer tables two neighbours change places, and an entry stands in the place of another one.
	for i, planned := range [][]int64{rising(120), stepped(3, 16), stepped(5, 128), drawnPlaces(40, 330)} {
		table := tableAt(planned, 32, uint64(i)+332)
		for k := 1; k < len(table); k++ {
			swapped := withSlot(withSlot(table, k, table[k-1]), k-1, table[k])
			list = append(list, swapped, withSlot(table, k, table[k-1]), withSlot(table, k, table[0]), withSlot(table, 0, table[k]))
			list = append(list, withSlot(table, k, impl.SlotInfo{Mode: table[k-1].Mode, Round: table[k-1].Round, Slot: table[k-1].Slot, Desc: table[k].Desc}))
		}
		reversed := slices.Clone(table)
		slices.Reverse(reversed)
		list = append(list, reversed, append(slices.Clone(table[1:]), table[0]))
	}
	return list
}

// tooLongSlotTables returns lists of more than 120 entries, the first 120 of which are a slot table.
func tooLongSlotTables() [][]impl.SlotInfo {
	var list [][]impl.SlotInfo
	for _, size := range []int{121, 122, 127, 128, 240, 255, 256, 257, 376, 1000, 2048} {
		list = append(list, tableAt(rising(size), 32, uint64(size)+340), tableAt(drawnPlaces(size, uint64(size)+341), 32, uint64(size)+342))
	}
	for _, table := range [][]impl.SlotInfo{tableAt(rising(120), 32, 344), tableAt(stepped(0, 17), 32, 346), tableAt(stepped(places-120, 1), 32, 348)} {
		last := table[119]
		list = append(list, append(slices.Clone(table), last), append(slices.Clone(table), impl.SlotInfo{}), append(slices.Clone(table), impl.SlotInfo{Mode: 16, Desc: last.Desc}))
		list = append(list, slices.Repeat(table, 2), slices.Repeat(table, 50))
	}
	return list
}

// notSlotTables returns lists of entries that are no slot tables, each for another reason.
func notSlotTables() [][]impl.SlotInfo {
	return slices.Concat(wrongSlotEntries(), wrongSlotOrders(), tooLongSlotTables())
}

func nameOfSlots(table []impl.SlotInfo) string {
	var text strings.Builder
	fmt.Fprintf(&text, "%d entries", len(table))
	for _, x := range table[:min(len(table), 6)] {
		fmt.Fprint(&text, " ", x)
	}
	return text.String()
}

// expectSlots fails the test if ReadSlotTable does not return these three values. It is called so often that the call is
// named only in a failure, as are those below.
func expectSlots(t *testing.T, list []int64, want []impl.SlotInfo, wantSize int64, wantCode int64) {
	t.Helper()
	got, size, code := impl.ReadSlotTable(list)
	if !slices.Equal(got, want) || size != wantSize || code != wantCode {
		t.Errorf("ReadSlotTable %s: %s, size %d, code %d, want %s, size %d, code %d", shortened(list), nameOfSlots(got), size, code, nameOfSlots(want), wantSize, wantCode)
	}
}

func expectSlotBytes(t *testing.T, table []impl.SlotInfo, want []int64, wantCode int64) {
	t.Helper()
	if got, code := impl.SlotTableBytes(table); code != wantCode || !slices.Equal(got, want) {
		t.Errorf("SlotTableBytes %s: %s, code %d, want %s, code %d", nameOfSlots(table), shortened(got), code, shortened(want), wantCode)
	}
}

func expectSlotTable(t *testing.T, table []impl.SlotInfo, want bool) {
	t.Helper()
	if got := impl.IsSlotTable(table); got != want {
		t.Errorf("IsSlotTable %s is %v", nameOfSlots(table), got)
	}
}

func expectSent(t *testing.T, table []impl.SlotInfo, slot impl.SlotInfo, want impl.Descriptor, wantCode int64) {
	t.Helper()
	if got, code := impl.FindSlot(table, slot.Mode, slot.Round, slot.Slot); got != want || code != wantCode {
		t.Errorf("FindSlot %s %d %d %d: %v, code %d, want %v, code %d", nameOfSlots(table), slot.Mode, slot.Round, slot.Slot, got, code, want, wantCode)
	}
}

func expectOfNode(t *testing.T, table []impl.SlotInfo, node int64, want []int64, wantCode int64) {
	t.Helper()
	if got, code := impl.SlotsOfNode(table, node); code != wantCode || !slices.Equal(got, want) {
		t.Errorf("SlotsOfNode %s %d: %s, code %d, want %s, code %d", nameOfSlots(table), node, shortened(got), code, shortened(want), wantCode)
	}
}

func expectInserted(t *testing.T, table []impl.SlotInfo, x impl.SlotInfo, want []impl.SlotInfo, wantCode int64) {
	t.Helper()
	if got, code := impl.InsertSlot(table, x); code != wantCode || !slices.Equal(got, want) {
		t.Errorf("InsertSlot %s %v: %s, code %d, want %s, code %d", nameOfSlots(table), x, nameOfSlots(got), code, nameOfSlots(want), wantCode)
	}
}

func expectCompared(t *testing.T, a impl.SlotInfo, b impl.SlotInfo, want int64) {
	t.Helper()
	if got := impl.CompareSlots(a, b); got != want {
		t.Errorf("CompareSlots %v %v is %d", a, b, got)
	}
}

// checkSlots compares ReadSlotTable of a list with the reference, and returns the code. What it accepts must begin with the
// bytes of the table that is read, and the size must be the number of these bytes.
func checkSlots(t *testing.T, list []int64) int64 {
	t.Helper()
	table, size, code := slotsByReference(list)
	expectSlots(t, list, table, size, code)
	got, n, gotCode := impl.ReadSlotTable(list)
	if gotCode != impl.ErrNone {
		return code
	}
	expectSlotTable(t, got, true)
	bytes, bytesCode := impl.SlotTableBytes(got)
	if bytesCode != impl.ErrNone || n != int64(len(bytes)) || len(bytes) > len(list) || !slices.Equal(bytes, list[:len(bytes)]) {
		t.Errorf("ReadSlotTable %s: size %d, but the bytes of the table are %s, code %d", shortened(list), n, shortened(bytes), bytesCode)
	}
	return code
}

func TestConstantsOfSlots(t *testing.T) {
	expectNumber(t, "the constant", impl.MaxSlotTable, 0, 120, 0)
}

func TestIsSlotTable(t *testing.T) {
	d, e := impl.Descriptor{Duration: 81}, impl.Descriptor{Node: 31, Kind: impl.FrameCold, Duration: 1000}
	for _, x := range []struct {
		table []impl.SlotInfo
		want  bool
	}{
		{nil, true},
		{[]impl.SlotInfo{}, true},
		{[]impl.SlotInfo{{}}, false},
		{[]impl.SlotInfo{{Desc: d}}, true},
		{[]impl.SlotInfo{{Desc: withDuration(d, 80)}}, false},
		{[]impl.SlotInfo{{Mode: 15, Round: 7, Slot: 15, Desc: e}}, true},
		{[]impl.SlotInfo{{Mode: 16, Round: 7, Slot: 15, Desc: e}}, false},
		{[]impl.SlotInfo{{Mode: 15, Round: 8, Slot: 15, Desc: e}}, false},
		{[]impl.SlotInfo{{Mode: 15, Round: 7, Slot: 16, Desc: e}}, false},
		{[]impl.SlotInfo{{Mode: 15, Round: 7, Slot: 15, Desc: withChange(e, true)}}, false},
		{[]impl.SlotInfo{{Mode: -1, Desc: d}}, false},
		{[]impl.SlotInfo{{Round: -1, Desc: d}}, false},
		{[]impl.SlotInfo{{Slot: -1, Desc: d}}, false},
		{[]impl.SlotInfo{{Desc: d}, {Slot: 1, Desc: d}}, true},
		{[]impl.SlotInfo{{Desc: d}, {Slot: 1, Desc: withNode(d, 32)}}, false},
		{[]impl.SlotInfo{{Desc: withNode(d, -1)}, {Slot: 1, Desc: d}}, false},
		{[]impl.SlotInfo{{Desc: d}, {Desc: d}}, false},
		{[]impl.SlotInfo{{Desc: d}, {Desc: e}}, false},
		{[]impl.SlotInfo{{Slot: 1, Desc: d}, {Desc: e}}, false},
		{[]impl.SlotInfo{{Slot: 15, Desc: e}, {Round: 1, Desc: d}}, true},
		{[]impl.SlotInfo{{Round: 1, Desc: d}, {Slot: 15, Desc: e}}, false},
		{[]impl.SlotInfo{{Round: 7, Slot: 15, Desc: e}, {Mode: 1, Desc: d}}, true},
		{[]impl.SlotInfo{{Mode: 1, Desc: d}, {Round: 7, Slot: 15, Desc: e}}, false},
		{[]impl.SlotInfo{{Mode: 1, Desc: d}, {Round: 1, Desc: d}, {Slot: 1, Desc: d}}, false},
		{[]impl.SlotInfo{{Slot: 1, Desc: d}, {Round: 1, Desc: d}, {Mode: 1, Desc: d}}, true},
		{[]impl.SlotInfo{{Slot: 1, Desc: d}, {Round: 1, Desc: d}, {Slot: 1, Desc: d}}, false},
		{tableAt(rising(120), 32, 350), true},
		{tableAt(rising(121), 32, 350), false},
	} {
		expectSlotTable(t, x.table, x.want)
	}
}

func TestIsSlotTableOfManyTables(t *testing.T) {
	for _, table := range manySlotTables() {
		expectSlotTable(t, table, true)
		for size := range table {
			expectSlotTable(t, table[:size], true)
			expectSlotTable(t, table[size:], true)
		}
		reversed := slices.Clone(table)
		slices.Reverse(reversed)
		expectSlotTable(t, reversed, len(table) < 2)
	}
	for _, table := range notSlotTables() {
		expectSlotTable(t, table, false)
		if isSlotTableByReference(table) {
			t.Errorf("%s is a slot table", nameOfSlots(table))
		}
	}
}

// All Modes, Rounds and Slots near their ends are tried alone, and as the first, the middle and the last of three entries.
func TestIsSlotTableOfAllNumbers(t *testing.T) {
	d := impl.Descriptor{Node: 4, Kind: impl.FrameInit, Duration: 151}
	start, end := slotAt(0, d), slotAt(places-1, d)
	valid := 0
	for mode := int64(-2); mode <= 18; mode++ {
		for round := int64(-2); round <= 17; round++ {
			for slot := int64(-2); slot <= 18; slot++ {
				x := impl.SlotInfo{Mode: mode, Round: round, Slot: slot, Desc: d}
				for _, table := range [][]impl.SlotInfo{{x}, {start, x, end}, {x, slotAt(1000, d), end}, {start, slotAt(1000, d), x}} {
					want := isSlotTableByReference(table)
					expectSlotTable(t, table, want)
					if want {
						valid++
					}
				}
			}
		}
	}
	expectNumber(t, "the number of tables", int64(valid), 0, 2048+2046+1000+1047, 0)
}

// All lists of at most four of a few places are tried.
func TestIsSlotTableOfAllOrders(t *testing.T) {
	some := []int64{0, 1, 16, 17, 128, 145, 2047}
	for size := range 5 {
		count := 1
		for range size {
			count *= len(some)
		}
		for choice := range count {
			list := make([]int64, size)
			for i := range list {
				list[i] = some[choice%len(some)]
				choice /= len(some)
			}
			table := tableAt(list, 2, uint64(choice)+352)
			expectSlotTable(t, table, isSlotTableByReference(table))
		}
	}
}

// Each valid descriptor, and each that is not valid, is tried in the first, a middle and the last entry.
func TestIsSlotTableOfAllDescriptors(t *testing.T) {
	for _, table := range [][]impl.SlotInfo{drawnSlots(1, 32, 354), drawnSlots(5, 32, 356)} {
		for _, index := range threeIndices(table) {
			x := table[index]
			for _, d := range slices.Concat(slotDescriptors(), notDescriptors(), edgeNotDescriptors()) {
				x.Desc = d
				expectSlotTable(t, withSlot(table, index, x), isSlotByReference(x))
			}
		}
	}
}

func TestKnownSlotTables(t *testing.T) {
	d := impl.Descriptor{Node: 1, Kind: impl.FrameNormal, Size: 1, Duration: 100}
	for _, x := range []struct {
		table []impl.SlotInfo
		bytes []int64
	}{
		{nil, []int64{0}},
		{[]impl.SlotInfo{}, []int64{0}},
		{[]impl.SlotInfo{{Desc: d}}, []int64{1, 0, 0, 1, 1, 0, 100, 0}},
		{[]impl.SlotInfo{{Desc: d}, {Slot: 2, Desc: withChange(d, true)}}, []int64{2, 0, 0, 1, 1, 0, 100, 0, 0, 2, 1, 1, 0, 100, 1}},
		{[]impl.SlotInfo{{Mode: 15, Round: 7, Slot: 15, Desc: impl.Descriptor{Node: 31, Kind: impl.FrameCold, Duration: 1000}}}, []int64{1, 247, 15, 31, 192, 3, 232, 0}},
		{[]impl.SlotInfo{
			{Mode: 1, Round: 2, Slot: 3, Desc: impl.Descriptor{Node: 4, Kind: impl.FrameInit, Duration: 256, Change: true}},
			{Mode: 2, Round: 1, Slot: 0, Desc: impl.Descriptor{Kind: impl.FrameData, Size: 32, Duration: 511}},
		}, []int64{2, 18, 3, 4, 64, 1, 0, 1, 33, 0, 0, 160, 1, 255, 0}},
	} {
		expectSlotBytes(t, x.table, x.bytes, impl.ErrNone)
		expectSlots(t, x.bytes, x.table, int64(len(x.bytes)), impl.ErrNone)
		expectList(t, "the reference", bytesOfSlots(len(x.table), x.table), 0, x.bytes, 0)
	}
	bytes, code := impl.SlotTableBytes(tableAt(rising(120), 32, 358))
	expectNumber(t, "the size of the longest table", int64(len(bytes)), code, 841, impl.ErrNone)
}

func TestSlotTableBytesErrors(t *testing.T) {
	for _, table := range notSlotTables() {
		expectSlotBytes(t, table, nil, impl.ErrInvalid)
	}
}

// checkSlotsRecovered checks that a slot table is recovered from its bytes, whatever follows these.
func checkSlotsRecovered(t *testing.T, table []impl.SlotInfo, behind ...[]int64) {
	t.Helper()
	bytes, code := impl.SlotTableBytes(table)
	if want := bytesOfSlots(len(table), table); code != impl.ErrNone || !slices.Equal(bytes, want) {
		t.Errorf("SlotTableBytes %s: %s, code %d, want %s", nameOfSlots(table), shortened(bytes), code, shortened(want))
	}
	size := int64(len(bytes))
	expectSlots(t, bytes, table, size, impl.ErrNone)
	for _, list := range behind {
		expectSlots(t, joined(bytes, list), table, size, impl.ErrNone)
	}
	expectSlots(t, joined(bytes, bytes[:min(len(bytes), 1024-len(bytes))]), table, size, impl.ErrNone)
	expectSlots(t, joined(bytes, repeated(0, 1024-len(bytes))), table, size, impl.ErrNone)
	expectSlots(t, joined(bytes, repeated(255, 1024-len(bytes))), table, size, impl.ErrNone)
}

// Promise 1, tables: slot tables are recovered from their bytes, whatever follows these.
func TestSlotTablesAreRecovered(t *testing.T) {
	sizes := map[int]int{}
	for i, table := range manySlotTables() {
		checkSlotsRecovered(t, table, []int64{0}, []int64{1}, []int64{255}, []int64{247, 15, 1, 1, 0, 100, 0}, mixed(i%183, 256, 360))
		sizes[len(table)]++
	}
	for size := range 121 {
		if sizes[size] < 4 {
			t.Errorf("only %d tables have %d entries", sizes[size], size)
		}
	}
}

// Promise 1, tables: an entry for each valid Mode, Round and Slot is recovered, alone and between others.
func TestAllPlacesAreRecovered(t *testing.T) {
	descriptors := drawnDescriptors(places, 32, 362)
	for place := range int64(places) {
		x := slotAt(place, descriptors[place])
		checkSlotsRecovered(t, []impl.SlotInfo{x}, []int64{7})
		table := []impl.SlotInfo{x}
		for _, other := range []int64{place - 128, place - 16, place - 1, place + 1, place + 16, place + 128} {
			if other >= 0 && other < places {
				table = append(table, slotAt(other, descriptors[other]))
			}
		}
		checkSlotsRecovered(t, sortedSlots(table), []int64{8, 9})
	}
}

// Promise 1, tables: each kind of descriptor, with the least and the greatest size and Duration, with and without Change, is
// recovered in the first, a middle and the last entry.
func TestAllDescriptorsOfSlotsAreRecovered(t *testing.T) {
	kinds := map[int64]int{}
	for i, d := range slotDescriptors() {
		table := drawnSlots(3, 32, uint64(i)+364)
		for index := range table {
			x := table[index]
			x.Desc = d
			checkSlotsRecovered(t, withSlot(table, index, x), []int64{1, 2, 3})
		}
		for _, node := range []int64{0, 31} {
			checkSlotsRecovered(t, []impl.SlotInfo{slotAt(int64(i)*7%places, withNode(d, node))})
		}
		kinds[d.Kind]++
	}
	expectKinds(t, kinds, 9)
}

// Promise 1, tables: the bytes of all entries together are recovered, in tables that are as full as they can be.
func TestFullSlotTablesAreRecovered(t *testing.T) {
	for seed := range uint64(200) {
		checkSlotsRecovered(t, drawnSlots(120, 32, seed+366), mixed(183, 256, seed+367))
		checkSlotsRecovered(t, drawnSlots(119, 1+int64(seed)%32, seed+368), mixed(190, 256, seed+369))
	}
}

// Promise 1, tables: bytes that are read are those of the table, whichever byte of a table is another one.
func TestReadBytesAreThoseOfTheSlots(t *testing.T) {
	accepted := 0
	for i, table := range someSlotTables() {
		bytes := bytesOfSlots(len(table), table)
		step := 1 + len(bytes)/10
		for index := range bytes {
			for value := range int64(256) {
				if (value+int64(index+i))%int64(step) != 0 {
					continue
				}
				if checkSlots(t, joined(with(bytes, index, value), mixed(20, 3, 370))) == impl.ErrNone {
					accepted++
				}
			}
		}
	}
	if accepted < 1000 {
		t.Errorf("only %d of the changed tables are tables again", accepted)
	}
}

// Promise 1, tables: all bytes are tried in each place of the first, a middle and the last entry.
func TestReadSlotTableOfAllBytes(t *testing.T) {
	accepted := map[int]int{}
	for _, table := range [][]impl.SlotInfo{drawnSlots(1, 32, 372), tableAt([]int64{3, 1000, 2040}, 32, 374), tableAt(stepped(5, 17), 32, 376)} {
		bytes := bytesOfSlots(len(table), table)
		for _, index := range threeIndices(table) {
			for k := range 7 {
				for value := range int64(256) {
					if checkSlots(t, with(bytes, 1+7*index+k, value)) == impl.ErrNone {
						accepted[k]++
					}
				}
			}
		}
	}
	for k := range 7 {
		if accepted[k] < 7 {
			t.Errorf("the bytes at the places of an entry are accepted so often: %v", accepted)
		}
	}
}

// Promise 1, tables: all short lists of a few bytes are tried, and all entries of a few bytes.
func TestReadSlotTableOfAllShortLists(t *testing.T) {
	for size := range 8 {
		for choice := range 1 << (2 * size) {
			list := make([]int64, size)
			for i := range list {
				list[i] = int64(choice >> (2 * i) & 3)
			}
			checkSlots(t, list)
		}
	}
	some := [][]int64{{0, 7, 8, 16, 247, 248, 255}, {0, 15, 16, 255}, {0, 31, 32}, {0, 32, 33, 64, 65, 128, 129, 192, 193}, {0, 1, 3, 4}, {0, 81, 151, 232, 233, 255}, {0, 1, 2}}
	accepted := 0
	for choice := range 7 * 4 * 3 * 9 * 4 * 6 * 3 {
		list := []int64{1}
		for _, values := range some {
			list = append(list, values[choice%len(values)])
			choice /= len(values)
		}
		if checkSlots(t, list) == impl.ErrNone {
			accepted++
		}
	}
	if accepted < 500 {
		t.Errorf("only %d entries are accepted", accepted)
	}
}

// Promise 1, tables: lists that follow no simple pattern, some of them nearly tables, are tried.
func TestReadSlotTableOfMixedLists(t *testing.T) {
	for seed := range uint64(3000) {
		checkSlots(t, mixed(int(seed%40), 256, seed+378))
		checkSlots(t, with(mixed(1+int(seed%60), 4, seed+379), 0, int64(seed%4)))
		table := drawnSlots(1+int(seed%5), 32, seed+380)
		bytes := joined(bytesOfSlots(len(table), table), bytesOfSlots(1, table))
		change := mixed(6, 1000, seed+381)
		for i := range 3 {
			index := int(change[i]) % len(bytes)
			bytes = with(bytes, index, change[i+3]%17)
			checkSlots(t, bytes)
		}
	}
}

func TestReadSlotTableCutOff(t *testing.T) {
	for _, table := range append(someSlotTables(), drawnSlots(9, 32, 382), drawnSlots(120, 32, 384)) {
		bytes := bytesOfSlots(len(table), table)
		for size := range bytes {
			expectSlots(t, bytes[:size], nil, 0, impl.ErrSyntax)
			expectSlots(t, slices.Clip(bytes[:size]), nil, 0, impl.ErrSyntax)
		}
	}
}

func TestReadSlotTableWithAnotherCount(t *testing.T) {
	for _, table := range append(someSlotTables(), tableAt(rising(146), 32, 386), tableAt(drawnPlaces(146, 388), 32, 390)) {
		bytes := bytesOfSlots(len(table), table)
		for count := range int64(256) {
			list := with(bytes, 0, count)
			code := checkSlots(t, list)
			wantCode := int64(impl.ErrNone)
			if count > 120 || count > int64(len(table)) {
				wantCode = impl.ErrSyntax
			}
			expectNumber(t, "the code of another number of entries", 0, code, 0, wantCode)
			checkSlots(t, joined(list, repeated(0, 1024-len(list))))
		}
	}
	expectSlots(t, nil, nil, 0, impl.ErrSyntax)
	expectSlots(t, []int64{}, nil, 0, impl.ErrSyntax)
	expectSlots(t, []int64{0}, nil, 1, impl.ErrNone)
	expectSlots(t, repeated(0, 1024), nil, 1, impl.ErrNone)
	expectSlots(t, joined([]int64{0}, repeated(255, 1023)), nil, 1, impl.ErrNone)
	for count := int64(1); count < 256; count++ {
		expectSlots(t, []int64{count}, nil, 0, impl.ErrSyntax)
		expectSlots(t, joined([]int64{count}, repeated(0, 1023)), nil, 0, impl.ErrSyntax)
		checkSlots(t, repeated(count, 1024))
	}
	longest := tableAt(rising(146), 32, 392)
	bytes := bytesOfSlots(120, longest)
	expectSlots(t, bytes, longest[:120], 841, impl.ErrNone)
	expectSlots(t, bytes[:841], longest[:120], 841, impl.ErrNone)
	expectSlots(t, with(bytes, 0, 121), nil, 0, impl.ErrSyntax)
	expectSlots(t, with(bytes, 0, 119), longest[:119], 834, impl.ErrNone)
	expectSlots(t, with(bytes, 0, 0), nil, 1, impl.ErrNone)
}

// isWritable reports whether an entry, valid or not, has bytes from which each of its fields can be told.
func isWritable(x impl.SlotInfo) bool {
	isBelow := func(value int64, limit int64) bool { return value >= 0 && value < limit }
	d := x.Desc
	return isBelow(x.Mode, 16) && isBelow(x.Round, 16) && isBelow(x.Slot, 256) && isBelow(d.Node, 256) && isBelow(d.Kind, 4) && isBelow(d.Size, 64) && isBelow(d.Duration, 1<<16)
}

// The bytes of lists of entries that are no slot table are tried, but for entries that have no such bytes.
func TestReadSlotTableOfWrongEntries(t *testing.T) {
	tried := 0
	for _, table := range notSlotTables() {
		list := bytesOfSlots(len(table), table)
		if len(list) > 1024 || slices.ContainsFunc(table, func(x impl.SlotInfo) bool { return !isWritable(x) }) {
			continue
		}
		tried++
		expectSlots(t, list, nil, 0, impl.ErrSyntax)
		expectSlots(t, joined(list, repeated(0, 1024-len(list))), nil, 0, impl.ErrSyntax)
	}
	if tried < 3000 {
		t.Errorf("only %d lists have bytes", tried)
	}
}

// The bytes of each descriptor that is refused are tried in the first, a middle and the last entry.
func TestReadSlotTableOfRefusedDescriptors(t *testing.T) {
	table := drawnSlots(5, 32, 394)
	bytes := bytesOfSlots(5, table)
	refused := 0
	for seed := range uint64(2000) {
		list := mixed(5, 256, seed+396)
		if seed%2 == 0 {
			d := bytesOfDescriptor(slotDescriptors()[int(seed)%len(slotDescriptors())])
			list = with(d, int(seed/2)%5, list[0])
		}
		_, wantCode := impl.DescriptorFromBytes(list)
		for _, index := range threeIndices(table) {
			at := 1 + 7*index + 2
			code := checkSlots(t, joined(bytes[:at], list, bytes[at+5:]))
			expectNumber(t, "the code of other bytes of a descriptor", 0, code, 0, wantCode)
		}
		if wantCode != impl.ErrNone {
			refused++
		}
	}
	if refused < 500 || refused > 1950 {
		t.Errorf("%d descriptors are refused", refused)
	}
}

func TestReadSlotTableErrors(t *testing.T) {
	for _, list := range notBytes() {
		expectSlots(t, list, nil, 0, impl.ErrRange)
	}
	for _, table := range someSlotTables() {
		bytes := bytesOfSlots(len(table), table)
		longest := joined(bytes, mixed(1024-len(bytes), 256, 398))
		expectSlots(t, longest, table, int64(len(bytes)), impl.ErrNone)
		expectSlots(t, joined(longest, []int64{0}), nil, 0, impl.ErrRange)
		expectSlots(t, joined(bytes, repeated(0, 5000)), nil, 0, impl.ErrRange)
		for _, wrong := range wrongBytes() {
			for index := range bytes {
				expectSlots(t, with(bytes, index, wrong), nil, 0, impl.ErrRange)
			}
			for _, index := range []int{len(bytes), len(bytes) + 1, 1000, 1023} {
				expectSlots(t, with(longest, index, wrong), nil, 0, impl.ErrRange)
			}
			expectSlots(t, joined(bytes, []int64{wrong}), nil, 0, impl.ErrRange)
			expectSlots(t, joined([]int64{0}, bytes, []int64{wrong}), nil, 0, impl.ErrRange)
			expectSlots(t, joined(with(bytes, 0, 121), []int64{wrong}), nil, 0, impl.ErrRange)
			expectSlots(t, joined(bytes[:len(bytes)-1], []int64{wrong}), nil, 0, impl.ErrRange)
			expectSlots(t, joined([]int64{1, 8, 16, 32, 255, 255, 255, 255}, []int64{wrong}), nil, 0, impl.ErrRange)
		}
	}
}

// otherSlots returns Modes, Rounds and Slots of which at least one is not in its range, near some places. A number that is
// carried over or cut off would name a place.
func otherSlots() []impl.SlotInfo {
	var list []impl.SlotInfo
	for _, place := range []int64{0, 1, 16, 128, 145, 1000, places - 1} {
		x := slotAt(place, impl.Descriptor{})
		list = append(list, notPlaces(x)...)
		for carry := int64(1); carry <= 2; carry++ {
			list = append(list,
				impl.SlotInfo{Mode: x.Mode - carry, Round: x.Round + 8*carry, Slot: x.Slot}, impl.SlotInfo{Mode: x.Mode - carry, Round: x.Round + 16*carry, Slot: x.Slot},
				impl.SlotInfo{Mode: x.Mode, Round: x.Round - carry, Slot: x.Slot + 16*carry}, impl.SlotInfo{Mode: x.Mode, Round: x.Round + carry, Slot: x.Slot - 16*carry},
				impl.SlotInfo{Mode: x.Mode + carry, Round: x.Round - 8*carry, Slot: x.Slot}, impl.SlotInfo{Mode: x.Mode + carry, Round: x.Round, Slot: x.Slot - 128*carry})
		}
	}
	return slices.DeleteFunc(list, func(x impl.SlotInfo) bool { return placeOf(x) >= 0 })
}

// All places and what is near them are looked for in tables.
func TestFindSlot(t *testing.T) {
	for _, table := range someSlotTables() {
		sent := map[int64]impl.Descriptor{}
		for _, x := range table {
			sent[placeOf(x)] = x.Desc
		}
		for place := range int64(places) {
			want, code := impl.Descriptor{}, int64(impl.ErrNotFound)
			if d, ok := sent[place]; ok {
				want, code = d, impl.ErrNone
			}
			expectSent(t, table, slotAt(place, impl.Descriptor{}), want, code)
		}
		for _, x := range otherSlots() {
			expectSent(t, table, x, impl.Descriptor{}, impl.ErrNotFound)
		}
	}
}

func TestFindSlotOfManyTables(t *testing.T) {
	for i, table := range manySlotTables() {
		for _, x := range table {
			expectSent(t, table, x, x.Desc, impl.ErrNone)
		}
		for _, place := range mixed(10, places, uint64(i)+400) {
			x := slotAt(place, impl.Descriptor{})
			if !slices.ContainsFunc(table, func(y impl.SlotInfo) bool { return placeOf(y) == place }) {
				expectSent(t, table, x, impl.Descriptor{}, impl.ErrNotFound)
			}
		}
	}
}

// A list that is no table is told first, whether it has an entry for the slot or not.
func TestFindSlotErrors(t *testing.T) {
	other := otherSlots()
	for i, table := range notSlotTables() {
		for _, x := range []impl.SlotInfo{table[0], table[len(table)/2], table[len(table)-1], {}, {Mode: 15, Round: 7, Slot: 15}, other[i%len(other)]} {
			expectSent(t, table, x, impl.Descriptor{}, impl.ErrInvalid)
		}
	}
}

// ofNodeByReference returns the indices of the entries of a node. It does not use the program.
func ofNodeByReference(table []impl.SlotInfo, node int64) []int64 {
	return slices.DeleteFunc(rising(len(table)), func(index int64) bool { return table[index].Desc.Node != node })
}

func TestSlotsOfNode(t *testing.T) {
	d := impl.Descriptor{Node: 1, Kind: impl.FrameNormal, Size: 1, Duration: 100}
	table := []impl.SlotInfo{{Desc: d}, {Slot: 1, Desc: withNode(d, 3)}, {Round: 1, Desc: d}, {Mode: 1, Desc: withNode(d, 0)}, {Mode: 2, Desc: d}}
	expectOfNode(t, table, 0, []int64{3}, impl.ErrNone)
	expectOfNode(t, table, 1, []int64{0, 2, 4}, impl.ErrNone)
	expectOfNode(t, table, 2, nil, impl.ErrNone)
	expectOfNode(t, table, 3, []int64{1}, impl.ErrNone)
	expectOfNode(t, nil, 0, nil, impl.ErrNone)
	expectOfNode(t, []impl.SlotInfo{}, 31, nil, impl.ErrNone)
	expectOfNode(t, tableAt(rising(120), 1, 402), 0, rising(120), impl.ErrNone)
	for _, table := range manySlotTables() {
		count := 0
		for node := range int64(32) {
			want := ofNodeByReference(table, node)
			expectOfNode(t, table, node, want, impl.ErrNone)
			count += len(want)
		}
		expectNumber(t, "the number of entries of all nodes", int64(count), 0, int64(len(table)), 0)
	}
	// A number that is no node has no entries.
	for _, table := range someSlotTables() {
		for _, node := range notNodes() {
			expectOfNode(t, table, node, nil, impl.ErrNone)
		}
	}
}

func TestSlotsOfNodeErrors(t *testing.T) {
	wrong := notNodes()
	for i, table := range notSlotTables() {
		for _, node := range []int64{0, 1, 31, table[0].Desc.Node, table[len(table)-1].Desc.Node, wrong[i%len(wrong)]} {
			expectOfNode(t, table, node, nil, impl.ErrInvalid)
		}
	}
}

// checkInserted checks what promise 1 says of an entry that is inserted, with the program's other functions, and compares
// the table with that of the reference.
func checkInserted(t *testing.T, table []impl.SlotInfo, x impl.SlotInfo) {
	t.Helper()
	want, code := insertedByReference(table, x)
	expectInserted(t, table, x, want, code)
	got, _ := impl.InsertSlot(table, x)
	expectSlotTable(t, got, true)
	for _, y := range append(slices.Clone(table), x) {
		expectSent(t, got, y, y.Desc, impl.ErrNone)
	}
	for node := range int64(32) {
		before, _ := impl.SlotsOfNode(table, node)
		after, code := impl.SlotsOfNode(got, node)
		more := truth(node == x.Desc.Node)[0]
		expectNumber(t, fmt.Sprintf("the number of entries of the node %d", node), int64(len(after)), code, int64(len(before))+more, impl.ErrNone)
	}
	place := slices.Index(got, x)
	if place < 0 || !slices.Equal(withoutSlot(got, place), table) {
		t.Errorf("InsertSlot %s %v: %s, without it another table", nameOfSlots(table), x, nameOfSlots(got))
	}
	checkSlotsRecovered(t, got)
}

// placesBetween returns, for each index at which an entry may be inserted into a slot table, the first, a middle and the last
// of the free places there, if there are any.
func placesBetween(table []impl.SlotInfo) []int64 {
	var list []int64
	before := int64(-1)
	for i := range len(table) + 1 {
		next := int64(places)
		if i < len(table) {
			next = placeOf(table[i])
		}
		if next-before > 1 {
			list = append(list, before+1, (before+next)/2, next-1)
		}
		before = next
	}
	return slices.Compact(list)
}

// Promise 1, an inserted entry is found: before the first one, between any two, and behind the last one.
func TestInsertedSlotsAreFound(t *testing.T) {
	var tables [][]impl.SlotInfo
	for _, table := range someSlotTables() {
		if len(table) < 120 {
			tables = append(tables, table)
		}
	}
	for i, planned := range plannedPlaces() {
		if len(planned) < 40 {
			tables = append(tables, tableAt(planned, 32, uint64(i)+404))
		}
	}
	for size := range 30 {
		tables = append(tables, drawnSlots(size, 1+int64(size), uint64(size)+406))
	}
	for i, table := range append(tables, tableAt(stepped(0, 17)[:119], 32, 408), tableAt(rising(119), 32, 410)) {
		list := placesBetween(table)
		descriptors := drawnDescriptors(len(list), 32, uint64(i)+412)
		for k, place := range list {
			checkInserted(t, table, slotAt(place, descriptors[k]))
		}
	}
}

// Promise 1, an inserted entry is found: each place is tried in the table without an entry and in a small one.
func TestInsertedSlotsAreFoundInEachPlace(t *testing.T) {
	descriptors := drawnDescriptors(places, 32, 414)
	small := tableAt([]int64{17, 300, 301, 1500}, 32, 416)
	for place := range int64(places) {
		x := slotAt(place, descriptors[place])
		checkInserted(t, nil, x)
		checkInserted(t, []impl.SlotInfo{}, x)
		if !slices.ContainsFunc(small, func(y impl.SlotInfo) bool { return placeOf(y) == place }) {
			checkInserted(t, small, x)
		}
	}
}

// Promise 1, an inserted entry is found: each descriptor is, and so is one that is equal to those of the neighbours.
func TestInsertedDescriptorsAreFound(t *testing.T) {
	for i, d := range slotDescriptors() {
		table := drawnSlots(6, 4, uint64(i)+418)
		list := placesBetween(table)
		checkInserted(t, table, slotAt(list[i%len(list)], d))
		for k := range table {
			table[k].Desc = d
		}
		checkInserted(t, table, slotAt(list[i*5%len(list)], d))
	}
}

// Promise 1: inserting an entry that was taken out of a table gives the table again.
func TestInsertSlotTakenOut(t *testing.T) {
	for _, table := range manySlotTables() {
		for index, x := range table {
			expectInserted(t, withoutSlot(table, index), x, table, impl.ErrNone)
		}
	}
}

// Tables grow from the table without an entry to the longest one, in whatever order the entries are inserted.
func TestInsertSlotOneByOne(t *testing.T) {
	for seed := range uint64(30) {
		table := drawnSlots(120, 32, seed+420)
		order := shuffled(rising(120), seed+422)
		switch seed {
		case 0:
			order = rising(120)
		case 1:
			order = falling(120)
		}
		var grown []impl.SlotInfo
		for _, index := range order {
			more, code := impl.InsertSlot(grown, table[index])
			expectNumber(t, "the size of a grown table", int64(len(more)), code, int64(len(grown)+1), impl.ErrNone)
			grown = more
		}
		if !slices.Equal(grown, table) {
			t.Errorf("the table has grown to %s, want %s", nameOfSlots(grown), nameOfSlots(table))
		}
	}
}

// wrongInserts returns copies of an entry that are not valid in one field each.
func wrongInserts(x impl.SlotInfo) []impl.SlotInfo {
	list := append(notPlaces(x), impl.SlotInfo{}, impl.SlotInfo{Mode: -1, Round: 8, Slot: 16, Desc: impl.Descriptor{Node: 32}})
	for _, d := range edgeNotDescriptors() {
		list = append(list, impl.SlotInfo{Mode: x.Mode, Round: x.Round, Slot: x.Slot, Desc: d})
	}
	return list
}

func TestInsertSlotErrors(t *testing.T) {
	free := slotAt(300, slotDescriptors()[0])
	for _, table := range someSlotTables() {
		for _, x := range wrongInserts(free) {
			expectInserted(t, table, x, nil, impl.ErrRange)
		}
		for i, x := range table {
			expectInserted(t, table, x, nil, impl.ErrState)
			x.Desc = slotDescriptors()[i]
			expectInserted(t, table, x, nil, impl.ErrState)
			x.Desc = edgeNotDescriptors()[i%len(edgeNotDescriptors())]
			expectInserted(t, table, x, nil, impl.ErrRange)
		}
	}
	for _, d := range notDescriptors() {
		expectInserted(t, nil, slotAt(3, d), nil, impl.ErrRange)
		expectInserted(t, drawnSlots(2, 32, 424), slotAt(3, d), nil, impl.ErrRange)
	}
	// In a table of 120 entries there is no place, but an entry that is not valid and one for a slot that has one are told
	// first.
	for _, table := range [][]impl.SlotInfo{tableAt(rising(120), 32, 426), tableAt(stepped(1, 17), 32, 428), tableAt(stepped(places-120, 1), 32, 430), drawnSlots(120, 32, 432)} {
		for k, place := range placesBetween(table) {
			x := slotAt(place, slotDescriptors()[k])
			expectInserted(t, table, x, nil, impl.ErrLimit)
			_, code := impl.InsertSlot(table[1:], x)
			expectNumber(t, "the code of InsertSlot into 119 entries", 0, code, 0, impl.ErrNone)
			_, code = impl.InsertSlot(table[:119], x)
			expectNumber(t, "the code of InsertSlot into the first 119 entries", 0, code, 0, impl.ErrNone)
		}
		for _, index := range threeIndices(table) {
			for _, x := range wrongInserts(table[index]) {
				expectInserted(t, table, x, nil, impl.ErrRange)
			}
			expectInserted(t, table, table[index], nil, impl.ErrState)
		}
	}
}

// A list that is no table is told first, whatever the entry is.
func TestInsertSlotErrInvalid(t *testing.T) {
	wrong := wrongInserts(slotAt(700, slotDescriptors()[5]))
	for i, table := range notSlotTables() {
		for _, x := range []impl.SlotInfo{table[0], table[len(table)/2], table[len(table)-1], slotAt(int64(i)%places, slotDescriptors()[9]), {}, wrong[i%len(wrong)]} {
			expectInserted(t, table, x, nil, impl.ErrInvalid)
		}
	}
}

func TestCompareSlots(t *testing.T) {
	for _, x := range []struct {
		a, b impl.SlotInfo
		want int64
	}{
		{impl.SlotInfo{}, impl.SlotInfo{}, 0},
		{impl.SlotInfo{Slot: 1}, impl.SlotInfo{}, 1},
		{impl.SlotInfo{Round: 1}, impl.SlotInfo{Slot: 15}, 1},
		{impl.SlotInfo{Mode: 1}, impl.SlotInfo{Round: 7, Slot: 15}, 1},
		{impl.SlotInfo{Mode: 1, Round: 2, Slot: 3}, impl.SlotInfo{Mode: 1, Round: 2, Slot: 3}, 0},
		{impl.SlotInfo{Mode: 1, Round: 2, Slot: 3}, impl.SlotInfo{Mode: 1, Round: 2, Slot: 4}, -1},
		{impl.SlotInfo{Mode: 1, Round: 2, Slot: 3}, impl.SlotInfo{Mode: 1, Round: 3, Slot: 2}, -1},
		{impl.SlotInfo{Mode: 1, Round: 2, Slot: 3}, impl.SlotInfo{Mode: 2, Round: 1, Slot: 2}, -1},
		{impl.SlotInfo{Mode: 1, Round: 2, Slot: 3}, impl.SlotInfo{Mode: 0, Round: 3, Slot: 4}, 1},
		{impl.SlotInfo{Mode: -1}, impl.SlotInfo{}, -1},
		{impl.SlotInfo{Slot: -1}, impl.SlotInfo{}, -1},
		{impl.SlotInfo{Round: -1, Slot: 5}, impl.SlotInfo{}, -1},
		{impl.SlotInfo{Mode: least}, impl.SlotInfo{Mode: greatest}, -1},
		{impl.SlotInfo{Round: greatest}, impl.SlotInfo{Round: least}, 1},
		{impl.SlotInfo{Slot: least}, impl.SlotInfo{Slot: 1}, -1},
		{impl.SlotInfo{Slot: greatest}, impl.SlotInfo{Slot: -2}, 1},
	} {
		expectCompared(t, x.a, x.b, x.want)
		expectCompared(t, x.b, x.a, -x.want)
	}
}

// All numbers at the ends of int64, of a byte and of the fields are compared in each field, below equal greater fields.
func TestCompareSlotsOfManyNumbers(t *testing.T) {
	numbers := []int64{least, least + 1, -1 << 32, -257, -256, -129, -128, -16, -8, -2, -1, 0, 1, 2, 7, 8, 9, 15, 16, 17, 127, 128, 129, 255, 256, 1 << 31, 1 << 32, 1<<32 + 1, greatest - 1, greatest}
	for i, one := range numbers {
		for k, other := range numbers {
			want := int64(0)
			if i < k {
				want = -1
			}
			if i > k {
				want = 1
			}
			for _, rest := range numbers {
				for _, below := range []int64{0, 1, 5} {
					expectCompared(t, impl.SlotInfo{Mode: one, Round: rest, Slot: below}, impl.SlotInfo{Mode: other, Round: rest, Slot: below}, want)
					expectCompared(t, impl.SlotInfo{Mode: rest, Round: one, Slot: below}, impl.SlotInfo{Mode: rest, Round: other, Slot: below}, want)
					expectCompared(t, impl.SlotInfo{Mode: rest, Round: below, Slot: one}, impl.SlotInfo{Mode: rest, Round: below, Slot: other}, want)
				}
			}
		}
	}
}

// Entries of a few numbers are compared with one another; the sign turns when they are exchanged, and no other field is
// looked at.
func TestCompareSlotsOfManyEntries(t *testing.T) {
	numbers := []int64{least, -1, 0, 1, 16, greatest}
	descriptors := slices.Concat(baseDescriptors(), edgeNotDescriptors())
	var list []impl.SlotInfo
	for choice := range 216 {
		x := impl.SlotInfo{Mode: numbers[choice%6], Round: numbers[choice/6%6], Slot: numbers[choice/36], Desc: descriptors[choice%len(descriptors)]}
		list = append(list, x)
	}
	for i, a := range list {
		for k, b := range list {
			want := comparedByReference(a, b)
			if i == k {
				want = 0
			}
			expectCompared(t, a, b, want)
			expectCompared(t, b, a, -want)
			a.Desc, b.Desc = descriptors[(i+k)%len(descriptors)], descriptors[(i*7+k*3)%len(descriptors)]
			expectCompared(t, a, b, want)
			a.Desc = b.Desc
			expectCompared(t, a, b, want)
		}
	}
}

// Two valid entries are a slot table exactly in the order that CompareSlots tells, and sorting by it gives slot tables.
func TestCompareSlotsIsTheOrderOfTables(t *testing.T) {
	descriptors := drawnDescriptors(40, 32, 434)
	for i, one := range drawnPlaces(120, 436) {
		for k, other := range append(drawnPlaces(60, 438), one, max(one-1, 0), max(one-16, 0), max(one-128, 0)) {
			a, b := slotAt(one, descriptors[i%40]), slotAt(other, descriptors[k%40])
			expectSlotTable(t, []impl.SlotInfo{a, b}, impl.CompareSlots(a, b) == -1)
			expectSlotTable(t, []impl.SlotInfo{b, a}, impl.CompareSlots(a, b) == 1)
		}
	}
	for seed, table := range someSlotTables() {
		var other []impl.SlotInfo
		for _, index := range shuffled(rising(len(table)), uint64(seed)+440) {
			other = append(other, table[index])
		}
		slices.SortFunc(other, func(a impl.SlotInfo, b impl.SlotInfo) int { return int(impl.CompareSlots(a, b)) })
		if !slices.Equal(other, table) {
			t.Errorf("%s are sorted to %s", nameOfSlots(table), nameOfSlots(other))
		}
	}
}

// The same call answers the same each time, in whatever order a map is gone through.
func TestSlotsAnswerTheSame(t *testing.T) {
	for _, table := range [][]impl.SlotInfo{drawnSlots(119, 4, 442), tableAt(rising(119), 3, 444), drawnSlots(5, 2, 446)} {
		bytes := bytesOfSlots(len(table), table)
		x := slotAt(placesBetween(table)[0], slotDescriptors()[3])
		want, _ := insertedByReference(table, x)
		for range 40 {
			expectSlotTable(t, table, true)
			expectSlotBytes(t, table, bytes, impl.ErrNone)
			expectSlots(t, bytes, table, int64(len(bytes)), impl.ErrNone)
			expectInserted(t, table, x, want, impl.ErrNone)
			expectInserted(t, table, table[0], nil, impl.ErrState)
			expectSent(t, table, x, impl.Descriptor{}, impl.ErrNotFound)
			for _, y := range table {
				expectSent(t, table, y, y.Desc, impl.ErrNone)
			}
			for node := range int64(5) {
				expectOfNode(t, table, node, ofNodeByReference(table, node), impl.ErrNone)
			}
		}
	}
}

// markedSlot is no entry of any table of the tests.
var markedSlot = impl.SlotInfo{Mode: mark, Round: mark, Slot: mark, Desc: impl.Descriptor{Node: mark, Kind: mark, Size: mark, Duration: mark, Change: true}}

// slotsOfMemory are tables for which the functions succeed and fail in different ways.
func slotsOfMemory() [][]impl.SlotInfo {
	return slices.Concat(someSlotTables(), wrongSlotOrders()[:6], wrongSlotEntries()[:6], tooLongSlotTables()[:3], [][]impl.SlotInfo{{{}}})
}

func fillSlots(table []impl.SlotInfo, x impl.SlotInfo) {
	for i := range table {
		table[i] = x
	}
}

func TestSlotsLeaveMemoryAlone(t *testing.T) {
	calls := map[string]func(table []impl.SlotInfo) []int64{
		"SlotTableBytes": func(table []impl.SlotInfo) []int64 { return first(impl.SlotTableBytes(table)) },
		"IsSlotTable":    func(table []impl.SlotInfo) []int64 { return truth(impl.IsSlotTable(table)) },
		"FindSlot": func(table []impl.SlotInfo) []int64 {
			d, code := impl.FindSlot(table, 0, 0, 0)
			return append(descriptorFields(d), code)
		},
	}
	for _, node := range []int64{-1, 0, 1, 2, 31, 32} {
		calls[fmt.Sprintf("SlotsOfNode %d", node)] = func(table []impl.SlotInfo) []int64 { return first(impl.SlotsOfNode(table, node)) }
	}
	for _, table := range slotsOfMemory() {
		for name, call := range calls {
			inner, array := guardTable(table, markedSlot)
			want := slices.Clone(array)
			one, other := call(inner), call(inner)
			wantList := slices.Clone(one)
			if !slices.Equal(one, other) {
				t.Errorf("%s: a second call returned another result", name)
			}
			fill(other[:cap(other)], mark-1)
			if !slices.Equal(array, want) {
				t.Errorf("%s changed the table %s or the memory around it", name, nameOfSlots(table))
			}
			fillSlots(array, markedSlot)
			if !slices.Equal(one, wantList) {
				t.Errorf("%s: the result shares memory with the table or another result", name)
			}
		}
	}
}

func TestInsertSlotLeavesMemoryAlone(t *testing.T) {
	for _, table := range slotsOfMemory() {
		list := append(wrongInserts(slotAt(9, slotDescriptors()[1]))[:3], slotAt(0, slotDescriptors()[2]), slotAt(3, slotDescriptors()[3]), slotAt(1030, slotDescriptors()[4]), slotAt(places-1, slotDescriptors()[5]))
		for _, x := range list {
			inner, array := guardTable(table, markedSlot)
			want := slices.Clone(array)
			one, code := impl.InsertSlot(inner, x)
			other, _ := impl.InsertSlot(inner, x)
			fillSlots(other[:cap(other)], impl.SlotInfo{Mode: mark - 1})
			if !slices.Equal(array, want) {
				t.Errorf("InsertSlot changed the table %s or the memory around it", nameOfSlots(table))
			}
			fillSlots(array, markedSlot)
			if wanted, wantCode := insertedByReference(table, x); !slices.Equal(one, wanted) || code != wantCode {
				t.Errorf("InsertSlot %s %v: the result shares memory with the table or another result", nameOfSlots(table), x)
			}
		}
	}
}

func TestReadSlotTableLeavesMemoryAlone(t *testing.T) {
	lists := append(memoryLists(), []int64{}, []int64{1}, []int64{256})
	for _, table := range someSlotTables() {
		bytes := bytesOfSlots(len(table), table)
		lists = append(lists, bytes, bytes[:len(bytes)-1], joined(bytes, []int64{1, 2}), with(bytes, len(bytes)-1, 77), with(bytes, 0, -1))
	}
	for _, list := range lists {
		checkMemory(t, "ReadSlotTable "+shortened(list), func(l [][]int64) []int64 {
			table, size, code := impl.ReadSlotTable(l[0])
			bytes := joined([]int64{size, code}, bytesOfSlots(len(table), table))
			fillSlots(table[:cap(table)], markedSlot)
			return bytes
		}, list)
	}
}

// What is written into a result changes no other result, nor does a change of the list that has been read.
func TestSlotsKeepNothing(t *testing.T) {
	for _, table := range someSlotTables() {
		list := bytesOfSlots(len(table), table)
		read, _, _ := impl.ReadSlotTable(list)
		again, _, _ := impl.ReadSlotTable(list)
		bytes, _ := impl.SlotTableBytes(read)
		fillSlots(read[:cap(read)], markedSlot)
		fill(list, mark)
		if !slices.Equal(again, table) {
			t.Errorf("the table that is read shares memory: %s, want %s", nameOfSlots(again), nameOfSlots(table))
		}
		expectSlots(t, bytes, table, int64(len(bytes)), impl.ErrNone)
		fill(bytes[:cap(bytes)], mark)
		expectSlotBytes(t, again, bytesOfSlots(len(table), table), impl.ErrNone)
	}
}
