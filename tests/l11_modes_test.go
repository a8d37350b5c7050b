package tests

import (
	"fmt"
	"regexp"
	"slices"
	"strings"
	"testing"

	"loop.example/g00833/impl"
)

// modePattern are the bytes of an entry of a mode table, each as a character: Rounds, Slots, and Next behind the number of
// its elements, whatever these are.
var modePattern = regexp.MustCompile(`(?s)\A([\x01-\x08])([\x01-\x10])(?:\x00|` + followingPattern() + `)`)

// followingPattern are the bytes of Next with one to fifteen elements.
func followingPattern() string {
	var parts []string
	for size := 1; size <= 15; size++ {
		parts = append(parts, fmt.Sprintf(`\x%02x(.{%d})`, size, size))
	}
	return strings.Join(parts, "|")
}

// isModeTableByReference reports whether a list is a mode table. It does not use the program.
func isModeTableByReference(table []impl.ModeInfo) bool {
	for mode, x := range table {
		var other []int64
		for next := range int64(len(table)) {
			if next != int64(mode) && slices.Contains(x.Next, next) {
				other = append(other, next)
			}
		}
		if x.Rounds < 1 || x.Rounds > 8 || x.Slots < 1 || x.Slots > 16 || !slices.Equal(other, x.Next) {
			return false
		}
	}
	return len(table) >= 1 && len(table) <= 16
}

// bytesOfModes returns the bytes of a list of entries, valid or not, with the number of entries that it is told. It does not
// use the program.
func bytesOfModes(count int, table []impl.ModeInfo) []int64 {
	bytes := []int64{int64(count)}
	for _, x := range table {
		bytes = append(bytes, x.Rounds, x.Slots, int64(len(x.Next)))
		bytes = append(bytes, x.Next...)
	}
	return bytes
}

// modesByReference returns what ReadModeTable returns for a list. It does not use the program.
func modesByReference(list []int64) ([]impl.ModeInfo, int64, int64) {
	if len(list) > 1024 || slices.ContainsFunc(list, func(value int64) bool { return value < 0 || value > 255 }) {
		return nil, 0, impl.ErrRange
	}
	if len(list) == 0 {
		return nil, 0, impl.ErrSyntax
	}
	var table []impl.ModeInfo
	at := 1
	for range list[0] {
		// An entry has at most 18 bytes.
		match := modePattern.FindStringSubmatch(charactersOf(list[at:min(at+18, len(list))]))
		if match == nil {
			return nil, 0, impl.ErrSyntax
		}
		x := impl.ModeInfo{Rounds: list[at], Slots: list[at+1]}
		for _, c := range strings.Join(match[3:], "") {
			x.Next = append(x.Next, int64(c))
		}
		table = append(table, x)
		at += 3 + len(x.Next)
	}
	if !isModeTableByReference(table) {
		return nil, 0, impl.ErrSyntax
	}
	return table, int64(at), impl.ErrNone
}

// reachableByReference returns, for each mode of a mode table, all modes that can be reached. It does not use the program.
func reachableByReference(table []impl.ModeInfo) [][]int64 {
	reaches := make([][]bool, len(table))
	for mode, x := range table {
		reaches[mode] = make([]bool, len(table))
		reaches[mode][mode] = true
		for _, next := range x.Next {
			reaches[mode][next] = true
		}
	}
	for over := range table {
		for from := range table {
			for to := range table {
				reaches[from][to] = reaches[from][to] || reaches[from][over] && reaches[over][to]
			}
		}
	}
	lists := make([][]int64, len(table))
	for from := range table {
		for to, ok := range reaches[from] {
			if ok {
				lists[from] = append(lists[from], int64(to))
			}
		}
	}
	return lists
}

// isBetterWay reports whether a way is shorter than another one, or as long and lexicographically smaller, or the first one.
func isBetterWay(way []int64, other []int64) bool {
	return other == nil || len(way) < len(other) || len(way) == len(other) && slices.Compare(way, other) < 0
}

// searchWays goes on from a way in all ways that meet no mode twice, and keeps the best one to each mode.
func searchWays(table []impl.ModeInfo, way []int64, best [][]int64) {
	last := way[len(way)-1]
	if isBetterWay(way, best[last]) {
		best[last] = slices.Clone(way)
	}
	for _, next := range table[last].Next {
		if !slices.Contains(way, next) {
			searchWays(table, joined(way, []int64{next}), best)
		}
	}
}

// waysBySearch returns the best way from a mode to each mode, nil if there is none, and tries all ways. It does not use the
// program.
func waysBySearch(table []impl.ModeInfo, from int64) [][]int64 {
	best := make([][]int64, len(table))
	searchWays(table, []int64{from}, best)
	return best
}

// waysByRelaxing returns the best way from a mode to each mode, nil if there is none. It makes ways better by one change as
// long as any becomes better, which is fast enough for many changes, and does not use the program.
func waysByRelaxing(table []impl.ModeInfo, from int64) [][]int64 {
	best := make([][]int64, len(table))
	best[from] = []int64{from}
	for again := true; again; {
		again = false
		for mode, x := range table {
			for _, next := range x.Next {
				if best[mode] != nil && isBetterWay(joined(best[mode], []int64{next}), best[next]) {
					best[next], again = joined(best[mode], []int64{next}), true
				}
			}
		}
	}
	return best
}

// tableOfChanges returns a mode table with the changes that are allowed, and drawn Rounds and Slots.
func tableOfChanges(size int, seed uint64, isAllowed func(from int, to int) bool) []impl.ModeInfo {
	rounds, slots := mixed(size, 8, seed), mixed(size, 16, seed+1)
	table := make([]impl.ModeInfo, size)
	for from := range table {
		table[from].Rounds, table[from].Slots = rounds[from]+1, slots[from]+1
		for to := range table {
			if to != from && isAllowed(from, to) {
				table[from].Next = append(table[from].Next, int64(to))
			}
		}
	}
	return table
}

// drawnTable returns a mode table in which so many of a hundred changes are allowed.
func drawnTable(size int, percent int64, seed uint64) []impl.ModeInfo {
	drawn := mixed(size*size, 100, seed+2)
	return tableOfChanges(size, seed, func(from int, to int) bool { return drawn[from*size+to] < percent })
}

// changeShapes are the changes of tables with a plan: none, chains, rings, all, parts that are not connected, one direction alone,
// stars, trees, and nets with many ways of one length.
func changeShapes(size int) []func(from int, to int) bool {
	return []func(from int, to int) bool{
		func(from int, to int) bool { return false },
		func(from int, to int) bool { return true },
		func(from int, to int) bool { return to == from+1 },
		func(from int, to int) bool { return to == from-1 },
		func(from int, to int) bool { return to == from+1 || to == from-1 },
		func(from int, to int) bool { return to == (from+1)%size },
		func(from int, to int) bool { return from == (to+1)%size },
		func(from int, to int) bool { return (to-from+size)%size == 1 || (from-to+size)%size == 1 },
		func(from int, to int) bool { return to > from },
		func(from int, to int) bool { return to < from },
		func(from int, to int) bool { return from%2 == to%2 },
		func(from int, to int) bool { return from/4 == to/4 },
		func(from int, to int) bool { return from%3 == to%3 && to > from },
		func(from int, to int) bool { return from == 0 },
		func(from int, to int) bool { return to == 0 },
		func(from int, to int) bool { return from == size-1 || to == size-1 },
		func(from int, to int) bool { return to == 2*from+1 || to == 2*from+2 },
		func(from int, to int) bool { return from == 2*to+1 || from == 2*to+2 },
		func(from int, to int) bool { return to-from == 1 && to%4 > 0 || to-from == 4 },
		func(from int, to int) bool { return from-to == 1 && from%4 > 0 || from-to == 4 },
		func(from int, to int) bool { return to/4 == from/4+1 },
		func(from int, to int) bool { return from/3 == to/3+1 },
		func(from int, to int) bool { return (to-from+size)%size == 2 || (to-from+size)%size == 3 },
		func(from int, to int) bool { return (from+to)%5 == 1 },
	}
}

// someModeTables returns a few mode tables of different sizes.
func someModeTables() [][]impl.ModeInfo {
	list := [][]impl.ModeInfo{
		{{Rounds: 1, Slots: 1}},
		{{Rounds: 8, Slots: 16, Next: []int64{}}},
		{{Rounds: 2, Slots: 3, Next: []int64{1}}, {Rounds: 1, Slots: 2, Next: []int64{2}}, {Rounds: 1, Slots: 1}},
		{{Rounds: 2, Slots: 2, Next: []int64{1}}, {Rounds: 1, Slots: 2, Next: []int64{0}}},
		tableOfChanges(16, 210, func(from int, to int) bool { return true }),
		tableOfChanges(16, 212, func(from int, to int) bool { return false }),
	}
	for size := 1; size <= 16; size += 3 {
		list = append(list, drawnTable(size, 40, uint64(size)+214))
	}
	return append(list, drawnTable(15, 60, 230))
}

// manyModeTables returns many mode tables of each number of entries.
func manyModeTables() [][]impl.ModeInfo {
	list := someModeTables()
	for size := 1; size <= 16; size++ {
		for i, shape := range changeShapes(size) {
			list = append(list, tableOfChanges(size, uint64(size*30+i)+234, shape))
		}
		for i, percent := range []int64{3, 6, 9, 12, 15, 20, 25, 30, 40, 50, 70, 90, 97} {
			list = append(list, drawnTable(size, percent, uint64(size*30+i)+236))
		}
	}
	return list
}

// notRounds are numbers that are neither Rounds nor Slots.
func notRounds() []int64 {
	return []int64{0, -1, -2, -8, -16, 17, 18, 32, 255, 256, 257, 264, -255, -256, 1 << 16, 1 << 32, 1<<32 + 1, -1 << 32, least, least + 1, greatest - 1, greatest}
}

// withMode returns a copy of a table with another entry at an index.
func withMode(table []impl.ModeInfo, index int, x impl.ModeInfo) []impl.ModeInfo {
	other := slices.Clone(table)
	other[index] = x
	return other
}

// withoutMode returns the modes of a table of a size without one, which is not the first one.
func withoutMode(size int, mode int) []int64 {
	return slices.DeleteFunc(rising(size), func(other int64) bool { return other == int64(mode) })
}

// notNext returns lists that are not Next of a mode of a table of a size.
func notNext(size int, mode int) [][]int64 {
	n, m := int64(size), int64(mode)
	lists := [][]int64{{m}, {-1}, {n}, {n + 1}, {-2}, {255}, {256}, {256 + (m+1)%n}, {1 << 32}, {1<<32 + (m+1)%n}, {least}, {greatest}, {m, m}, {-1, m}, {m, n}, {-1, n}, repeated(m, 1000), repeated(-1, 1000), repeated(n, 3), rising(size), joined([]int64{-1}, rising(size)), rising(size + 1), rising(1000)}
	other := withoutMode(size, mode)
	lists = append(lists, joined(other, []int64{n}), joined(other, []int64{greatest}), joined([]int64{-1}, other), joined([]int64{least}, other))
	if len(other) > 0 {
		lists = append(lists, joined(other, other[:1]), joined(other, other[len(other)-1:]), joined(other[:1], other), joined(other, other), slices.Repeat(other, 30))
	}
	if len(other) > 1 {
		reversed := slices.Clone(other)
		slices.Reverse(reversed)
		lists = append(lists, reversed, other[:2], other[len(other)-2:])
		lists[len(lists)-2] = []int64{other[1], other[0]}
		lists[len(lists)-1] = []int64{other[len(other)-1], other[0]}
		half := len(other) / 2
		lists = append(lists, joined(other[:half], other[half:half+1], other[half:]), joined(other[half:], other[:half]), joined(other[:1], []int64{m}, other[1:]))
	}
	return slices.DeleteFunc(lists, func(list []int64) bool { return len(list) == 0 })
}

// badModes returns an entry with each of the things that make it invalid.
func badModes(x impl.ModeInfo, size int, mode int) []impl.ModeInfo {
	var list []impl.ModeInfo
	for _, rounds := range append(notRounds(), 9, 10, 15, 16) {
		list = append(list, impl.ModeInfo{Rounds: rounds, Slots: x.Slots, Next: x.Next})
	}
	for _, slots := range notRounds() {
		list = append(list, impl.ModeInfo{Rounds: x.Rounds, Slots: slots, Next: x.Next}, impl.ModeInfo{Rounds: slots, Slots: slots, Next: x.Next})
	}
	for _, next := range notNext(size, mode) {
		list = append(list, impl.ModeInfo{Rounds: x.Rounds, Slots: x.Slots, Next: next})
	}
	return append(list, impl.ModeInfo{}, impl.ModeInfo{Rounds: 9, Slots: 17, Next: []int64{-1}})
}

// tooLongModeTables returns lists of more than 16 entries, the first 16 of which are a mode table.
func tooLongModeTables() [][]impl.ModeInfo {
	var list [][]impl.ModeInfo
	for _, table := range [][]impl.ModeInfo{drawnTable(16, 0, 240), drawnTable(16, 30, 241), drawnTable(16, 100, 242)} {
		for _, next := range [][]int64{nil, {0}, {15}, {0, 1, 15}, {16}} {
			longer := append(slices.Clone(table), impl.ModeInfo{Rounds: 1, Slots: 1, Next: next})
			list = append(list, longer, append(slices.Clone(longer), impl.ModeInfo{Rounds: 8, Slots: 16}))
		}
		list = append(list, append(slices.Clone(table), impl.ModeInfo{}), slices.Repeat(table, 2), slices.Repeat(table, 16), slices.Repeat(table, 500))
	}
	return append(list, drawnTable(17, 0, 243), drawnTable(17, 30, 244), drawnTable(17, 100, 245), drawnTable(40, 20, 246), drawnTable(300, 1, 247))
}

// notModeTables returns lists of entries that are no mode tables, each for another reason.
func notModeTables() [][]impl.ModeInfo {
	list := [][]impl.ModeInfo{nil, {}, {{}}, {{Rounds: 1}}, {{Slots: 1}}}
	for _, table := range [][]impl.ModeInfo{someModeTables()[0], someModeTables()[2], drawnTable(5, 50, 248), drawnTable(16, 20, 249), drawnTable(16, 100, 250)} {
		for _, index := range []int{0, len(table) / 2, len(table) - 1} {
			for _, x := range badModes(table[index], len(table), index) {
				list = append(list, withMode(table, index, x))
			}
		}
	}
	return slices.Concat(list, tooLongModeTables())
}

// notModes are numbers that are no modes of a table of a size.
func notModes(size int) []int64 {
	n := int64(size)
	return []int64{-1, n, -2, n + 1, -n, 16 + n, 255, 256, 1 << 32, 1<<32 + n - 1, -1 << 32, least, least + 1, greatest - 1, greatest}
}

func nameOfModes(table []impl.ModeInfo) string {
	var text strings.Builder
	fmt.Fprintf(&text, "%d modes", len(table))
	for _, x := range table[:min(len(table), 17)] {
		fmt.Fprintf(&text, " {%d %d %s}", x.Rounds, x.Slots, shortened(x.Next))
	}
	return text.String()
}

// sameModes reports whether two tables are equal. Next that is nil is the same as an empty one.
func sameModes(a []impl.ModeInfo, b []impl.ModeInfo) bool {
	return slices.EqualFunc(a, b, func(x impl.ModeInfo, y impl.ModeInfo) bool {
		return x.Rounds == y.Rounds && x.Slots == y.Slots && slices.Equal(x.Next, y.Next)
	})
}

// expectModes fails the test if ReadModeTable does not return these three values. It is called so often that the call is
// named only in a failure, as are those below.
func expectModes(t *testing.T, list []int64, want []impl.ModeInfo, wantSize int64, wantCode int64) {
	t.Helper()
	got, size, code := impl.ReadModeTable(list)
	if !sameModes(got, want) || size != wantSize || code != wantCode {
		t.Errorf("ReadModeTable %s: %s, size %d, code %d, want %s, size %d, code %d", shortened(list), nameOfModes(got), size, code, nameOfModes(want), wantSize, wantCode)
	}
}

func expectModeBytes(t *testing.T, table []impl.ModeInfo, want []int64, wantCode int64) {
	t.Helper()
	if got, code := impl.ModeTableBytes(table); code != wantCode || !slices.Equal(got, want) {
		t.Errorf("ModeTableBytes %s: %s, code %d, want %s, code %d", nameOfModes(table), shortened(got), code, shortened(want), wantCode)
	}
}

func expectModeTable(t *testing.T, table []impl.ModeInfo, want bool) {
	t.Helper()
	if got := impl.IsModeTable(table); got != want {
		t.Errorf("IsModeTable %s is %v", nameOfModes(table), got)
	}
}

func expectChange(t *testing.T, table []impl.ModeInfo, from int64, to int64, want bool) {
	t.Helper()
	if got := impl.MayChange(table, from, to); got != want {
		t.Errorf("MayChange %s from %d to %d is %v", nameOfModes(table), from, to, got)
	}
}

func expectReachable(t *testing.T, table []impl.ModeInfo, from int64, want []int64, wantCode int64) {
	t.Helper()
	if got, code := impl.ReachableModes(table, from); code != wantCode || !slices.Equal(got, want) {
		t.Errorf("ReachableModes %s from %d: %s, code %d, want %s, code %d", nameOfModes(table), from, shortened(got), code, shortened(want), wantCode)
	}
}

func expectWay(t *testing.T, table []impl.ModeInfo, from int64, to int64, want []int64, wantCode int64) {
	t.Helper()
	if got, code := impl.ModePath(table, from, to); code != wantCode || !slices.Equal(got, want) {
		t.Errorf("ModePath %s from %d to %d: %s, code %d, want %s, code %d", nameOfModes(table), from, to, shortened(got), code, shortened(want), wantCode)
	}
}

func expectCycle(t *testing.T, table []impl.ModeInfo, mode int64, want int64, wantCode int64) {
	t.Helper()
	if got, code := impl.CycleSlots(table, mode); got != want || code != wantCode {
		t.Errorf("CycleSlots %s %d: %d, code %d, want %d, code %d", nameOfModes(table), mode, got, code, want, wantCode)
	}
}

// checkModes compares ReadModeTable of a list with the reference, and returns the code. What it accepts must begin with the
// bytes of the table that is read.
func checkModes(t *testing.T, list []int64) int64 {
	t.Helper()
	table, size, code := modesByReference(list)
	expectModes(t, list, table, size, code)
	if got, n, gotCode := impl.ReadModeTable(list); gotCode == impl.ErrNone && n >= 0 && n <= int64(len(list)) {
		expectModeTable(t, got, true)
		expectModeBytes(t, got, list[:n], impl.ErrNone)
	}
	return code
}

func TestConstantsOfModes(t *testing.T) {
	expectList(t, "the constants", []int64{impl.MaxRounds, impl.MaxSlots}, 0, []int64{8, 16}, 0)
}

func TestIsModeTable(t *testing.T) {
	last := impl.ModeInfo{Rounds: 8, Slots: 16}
	for _, x := range []struct {
		table []impl.ModeInfo
		want  bool
	}{
		{nil, false},
		{[]impl.ModeInfo{}, false},
		{[]impl.ModeInfo{{}}, false},
		{[]impl.ModeInfo{{Rounds: 1, Slots: 1}}, true},
		{[]impl.ModeInfo{{Rounds: 1, Slots: 1, Next: []int64{}}}, true},
		{[]impl.ModeInfo{{Rounds: 1, Slots: 1, Next: []int64{0}}}, false},
		{[]impl.ModeInfo{{Rounds: 1, Slots: 1, Next: []int64{1}}}, false},
		{[]impl.ModeInfo{{Rounds: 1, Slots: 1, Next: []int64{-1}}}, false},
		{[]impl.ModeInfo{last}, true},
		{[]impl.ModeInfo{{Rounds: 9, Slots: 16}}, false},
		{[]impl.ModeInfo{{Rounds: 8, Slots: 17}}, false},
		{[]impl.ModeInfo{{Rounds: 0, Slots: 16}}, false},
		{[]impl.ModeInfo{{Rounds: 8, Slots: 0}}, false},
		{[]impl.ModeInfo{{Rounds: 1, Slots: 1, Next: []int64{1}}, last}, true},
		{[]impl.ModeInfo{{Rounds: 1, Slots: 1, Next: []int64{2}}, last}, false},
		{[]impl.ModeInfo{{Rounds: 1, Slots: 1, Next: []int64{0, 1}}, last}, false},
		{[]impl.ModeInfo{{Rounds: 1, Slots: 1, Next: []int64{1, 1}}, last}, false},
		{[]impl.ModeInfo{{Rounds: 1, Slots: 1, Next: []int64{1, 2}}, last, last}, true},
		{[]impl.ModeInfo{{Rounds: 1, Slots: 1, Next: []int64{2, 1}}, last, last}, false},
		{[]impl.ModeInfo{{Rounds: 1, Slots: 1, Next: []int64{1, 2, 3}}, last, last}, false},
		{[]impl.ModeInfo{last, {Rounds: 1, Slots: 1, Next: []int64{0, 2}}, last}, true},
		{[]impl.ModeInfo{last, {Rounds: 1, Slots: 1, Next: []int64{0, 1, 2}}, last}, false},
		{[]impl.ModeInfo{last, {Rounds: 1, Slots: 1, Next: []int64{1}}, last}, false},
		{[]impl.ModeInfo{last, last, {Rounds: 1, Slots: 1, Next: []int64{0, 1}}}, true},
		{[]impl.ModeInfo{last, last, {Rounds: 1, Slots: 1, Next: []int64{0, 1, 2}}}, false},
		{slices.Repeat([]impl.ModeInfo{last}, 16), true},
		{slices.Repeat([]impl.ModeInfo{last}, 17), false},
	} {
		expectModeTable(t, x.table, x.want)
	}
}

func TestIsModeTableOfManyTables(t *testing.T) {
	for _, table := range manyModeTables() {
		expectModeTable(t, table, true)
		for size := range table {
			expectModeTable(t, table[:size], isModeTableByReference(table[:size]))
			expectModeTable(t, table[size:], isModeTableByReference(table[size:]))
		}
		reversed := slices.Clone(table)
		slices.Reverse(reversed)
		expectModeTable(t, reversed, isModeTableByReference(reversed))
	}
	for _, table := range notModeTables() {
		expectModeTable(t, table, false)
		if isModeTableByReference(table) {
			t.Errorf("%s is a mode table", nameOfModes(table))
		}
	}
}

// All Rounds and Slots near their ends are tried in the first, a middle and the last entry.
func TestIsModeTableOfAllRoundsAndSlots(t *testing.T) {
	for _, table := range [][]impl.ModeInfo{drawnTable(1, 0, 251), drawnTable(3, 50, 252), drawnTable(16, 30, 253)} {
		for _, index := range []int{0, len(table) / 2, len(table) - 1} {
			for rounds := int64(-3); rounds <= 20; rounds++ {
				for slots := int64(-3); slots <= 35; slots++ {
					x := impl.ModeInfo{Rounds: rounds, Slots: slots, Next: table[index].Next}
					expectModeTable(t, withMode(table, index, x), rounds >= 1 && rounds <= 8 && slots >= 1 && slots <= 16)
				}
			}
		}
	}
}

// All lists of at most four elements from -1 to 4 are tried as Next of each mode of tables of one to four modes.
func TestIsModeTableOfAllNext(t *testing.T) {
	for size := 1; size <= 4; size++ {
		for mode := range size {
			for length, count := 0, 1; length <= 4; length, count = length+1, count*6 {
				for choice := range count {
					next := make([]int64, length)
					for i := range next {
						next[i] = int64(choice%6) - 1
						choice /= 6
					}
					table := withMode(drawnTable(size, 50, 254), mode, impl.ModeInfo{Rounds: 3, Slots: 5, Next: next})
					expectModeTable(t, table, isModeTableByReference(table))
				}
			}
		}
	}
}

func TestKnownModeTables(t *testing.T) {
	for _, x := range []struct {
		table []impl.ModeInfo
		bytes []int64
	}{
		{[]impl.ModeInfo{{Rounds: 1, Slots: 1}}, []int64{1, 1, 1, 0}},
		{[]impl.ModeInfo{{Rounds: 8, Slots: 16, Next: []int64{}}}, []int64{1, 8, 16, 0}},
		{[]impl.ModeInfo{{Rounds: 2, Slots: 3, Next: []int64{1}}, {Rounds: 1, Slots: 2, Next: []int64{2}}, {Rounds: 1, Slots: 1}}, []int64{3, 2, 3, 1, 1, 1, 2, 1, 2, 1, 1, 0}},
		{[]impl.ModeInfo{{Rounds: 2, Slots: 2, Next: []int64{1}}, {Rounds: 1, Slots: 2, Next: []int64{0}}}, []int64{2, 2, 2, 1, 1, 1, 2, 1, 0}},
		{[]impl.ModeInfo{{Rounds: 8, Slots: 1, Next: []int64{1, 2}}, {Rounds: 7, Slots: 15, Next: []int64{0, 2}}, {Rounds: 6, Slots: 16, Next: []int64{0, 1}}}, []int64{3, 8, 1, 2, 1, 2, 7, 15, 2, 0, 2, 6, 16, 2, 0, 1}},
	} {
		expectModeBytes(t, x.table, x.bytes, impl.ErrNone)
		expectModes(t, x.bytes, x.table, int64(len(x.bytes)), impl.ErrNone)
		expectList(t, "the reference", bytesOfModes(len(x.table), x.table), 0, x.bytes, 0)
	}
	bytes, code := impl.ModeTableBytes(drawnTable(16, 100, 255))
	expectNumber(t, "the size of the longest table", int64(len(bytes)), code, 289, impl.ErrNone)
}

func TestModeTableBytesErrors(t *testing.T) {
	for _, table := range notModeTables() {
		expectModeBytes(t, table, nil, impl.ErrInvalid)
	}
}

// checkRecovered checks that a mode table is recovered from its bytes, whatever follows these.
func checkRecovered(t *testing.T, table []impl.ModeInfo, behind ...[]int64) {
	t.Helper()
	bytes, code := impl.ModeTableBytes(table)
	if want := bytesOfModes(len(table), table); code != impl.ErrNone || !slices.Equal(bytes, want) {
		t.Errorf("ModeTableBytes %s: %s, code %d, want %s", nameOfModes(table), shortened(bytes), code, listText(want))
	}
	size := int64(len(bytes))
	expectModes(t, bytes, table, size, impl.ErrNone)
	expectModes(t, joined(bytes, bytes), table, size, impl.ErrNone)
	for _, list := range behind {
		expectModes(t, joined(bytes, list), table, size, impl.ErrNone)
	}
	expectModes(t, joined(bytes, repeated(0, 1024-len(bytes))), table, size, impl.ErrNone)
	expectModes(t, joined(bytes, repeated(255, 1024-len(bytes))), table, size, impl.ErrNone)
}

// Promise 1, tables: mode tables are recovered from their bytes, whatever follows these.
func TestModeTablesAreRecovered(t *testing.T) {
	for i, table := range manyModeTables() {
		checkRecovered(t, table, []int64{0}, []int64{1}, []int64{255}, []int64{1, 1, 1, 0}, mixed(i%700, 256, 256))
	}
	for seed := range uint64(1500) {
		checkRecovered(t, drawnTable(1+int(seed%16), int64(seed*7%101), seed+257), mixed(int(seed%9), 17, seed+258))
	}
}

// Promise 1, tables: all Rounds and Slots, and Next empty, of each one mode, of all other modes and of all but one of these
// are recovered.
func TestAllModesAreRecovered(t *testing.T) {
	for rounds := int64(1); rounds <= 8; rounds++ {
		for slots := int64(1); slots <= 16; slots++ {
			checkRecovered(t, []impl.ModeInfo{{Rounds: rounds, Slots: slots}}, []int64{7})
			checkRecovered(t, withMode(drawnTable(16, 20, 259), int(slots-1), impl.ModeInfo{Rounds: rounds, Slots: slots}), []int64{8})
		}
	}
	for size := 1; size <= 16; size++ {
		for mode := range size {
			table, other := drawnTable(size, 30, uint64(size)+260), withoutMode(size, mode)
			checkRecovered(t, withMode(table, mode, impl.ModeInfo{Rounds: 1, Slots: 16}), []int64{5})
			checkRecovered(t, withMode(table, mode, impl.ModeInfo{Rounds: 8, Slots: 1, Next: other}), []int64{5})
			for i, next := range other {
				checkRecovered(t, withMode(table, mode, impl.ModeInfo{Rounds: 4, Slots: 8, Next: []int64{next}}), []int64{5})
				checkRecovered(t, withMode(table, mode, impl.ModeInfo{Rounds: 5, Slots: 9, Next: joined(other[:i], other[i+1:])}), []int64{5})
			}
		}
	}
}

// Promise 1, tables: bytes that are read are those of the table, whichever byte of a table is another one.
func TestReadBytesAreThoseOfTheModes(t *testing.T) {
	accepted := 0
	for _, table := range someModeTables() {
		bytes := bytesOfModes(len(table), table)
		step := 1 + len(bytes)/30
		for index := range bytes {
			for value := range int64(256) {
				if value > 20 && value%int64(step) != 0 {
					continue
				}
				if checkModes(t, joined(with(bytes, index, value), mixed(20, 3, 280))) == impl.ErrNone {
					accepted++
				}
			}
		}
	}
	if accepted < 1000 {
		t.Errorf("only %d of the changed tables are tables again", accepted)
	}
}

// Promise 1, tables: all short lists of a few bytes are tried.
func TestReadModeTableOfAllShortLists(t *testing.T) {
	for size := range 9 {
		for choice := range 1 << (2 * size) {
			list := make([]int64, size)
			for i := range list {
				list[i] = int64(choice >> (2 * i) & 3)
			}
			checkModes(t, list)
		}
	}
}

// Promise 1, tables: lists that follow no simple pattern, some of them nearly tables, are tried.
func TestReadModeTableOfMixedLists(t *testing.T) {
	for seed := range uint64(3000) {
		checkModes(t, mixed(int(seed%40), 256, seed+281))
		checkModes(t, mixed(int(seed%40), 3, seed+282))
		table := drawnTable(1+int(seed%6), 40, seed+283)
		bytes := joined(bytesOfModes(len(table), table), bytesOfModes(1, table))
		change := mixed(6, 1000, seed+284)
		for i := range 3 {
			index := int(change[i]) % len(bytes)
			bytes = with(bytes, index, change[i+3]%17)
			checkModes(t, bytes)
		}
	}
}

func TestReadModeTableCutOff(t *testing.T) {
	for _, table := range append(someModeTables(), drawnTable(9, 30, 285), drawnTable(16, 50, 286)) {
		bytes := bytesOfModes(len(table), table)
		for size := range bytes {
			expectModes(t, bytes[:size], nil, 0, impl.ErrSyntax)
			expectModes(t, slices.Clip(bytes[:size]), nil, 0, impl.ErrSyntax)
		}
	}
}

func TestReadModeTableWithAnotherCount(t *testing.T) {
	for _, table := range append(someModeTables(), drawnTable(16, 20, 287), drawnTable(16, 0, 288), slices.Repeat(drawnTable(1, 0, 289), 300)) {
		bytes := bytesOfModes(len(table), table)
		for count := range int64(256) {
			list := with(bytes[:min(len(bytes), 1024)], 0, count)
			code := checkModes(t, list)
			if count == 0 || count > 16 || count > int64(len(table)) {
				expectNumber(t, "the code of a wrong number of entries", 0, code, 0, impl.ErrSyntax)
			}
			checkModes(t, joined(list, repeated(1, 1024-len(list))))
		}
	}
	expectModes(t, nil, nil, 0, impl.ErrSyntax)
	expectModes(t, []int64{}, nil, 0, impl.ErrSyntax)
	for count := range int64(256) {
		expectModes(t, []int64{count}, nil, 0, impl.ErrSyntax)
		expectModes(t, joined([]int64{count}, repeated(0, 1023)), nil, 0, impl.ErrSyntax)
		checkModes(t, repeated(count, 1024))
		checkModes(t, joined([]int64{count}, slices.Repeat([]int64{1, 1, 0}, 341)))
	}
	sixteen := joined([]int64{16}, slices.Repeat([]int64{1, 1, 0}, 17))
	expectModes(t, sixteen, slices.Repeat([]impl.ModeInfo{{Rounds: 1, Slots: 1}}, 16), 49, impl.ErrNone)
	expectModes(t, with(sixteen, 0, 17), nil, 0, impl.ErrSyntax)
	expectModes(t, with(sixteen, 0, 0), nil, 0, impl.ErrSyntax)
}

// Each number of elements of Next is tried in the first, a middle and the last entry, with enough bytes behind them and
// without.
func TestReadModeTableWithAnotherSizeOfNext(t *testing.T) {
	for _, table := range [][]impl.ModeInfo{drawnTable(1, 0, 290), drawnTable(4, 50, 291), drawnTable(16, 30, 292)} {
		for _, index := range []int{0, len(table) / 2, len(table) - 1} {
			bytes := bytesOfModes(len(table), table)
			at := len(bytesOfModes(0, table[:index])) + 2
			for size := range int64(256) {
				checkModes(t, with(bytes, at, size))
				checkModes(t, joined(with(bytes, at, size), rising(256)))
				longer := joined(bytes[:at], []int64{size}, rising(int(size)), bytes[at+1+len(table[index].Next):])
				checkModes(t, longer)
				if size >= int64(len(table)) {
					expectModes(t, longer, nil, 0, impl.ErrSyntax)
				}
			}
		}
	}
}

// The bytes of lists of entries that are no mode table, but for numbers that have no such bytes, are tried.
func TestReadModeTableOfWrongEntries(t *testing.T) {
	tried := 0
	for _, table := range notModeTables() {
		list := bytesOfModes(len(table), table)
		isTooBig := func(value int64) bool { return value < 0 || value > 255 }
		if len(list) > 1024 || slices.ContainsFunc(list, isTooBig) {
			continue
		}
		tried++
		expectModes(t, list, nil, 0, impl.ErrSyntax)
		expectModes(t, joined(list, repeated(0, 1024-len(list))), nil, 0, impl.ErrSyntax)
	}
	if tried < 300 {
		t.Errorf("only %d lists have bytes", tried)
	}
}

func TestReadModeTableErrors(t *testing.T) {
	for _, list := range notBytes() {
		expectModes(t, list, nil, 0, impl.ErrRange)
	}
	for _, table := range append(someModeTables(), drawnTable(16, 30, 293)) {
		bytes := bytesOfModes(len(table), table)
		longest := joined(bytes, mixed(1024-len(bytes), 256, 294))
		expectModes(t, longest, table, int64(len(bytes)), impl.ErrNone)
		expectModes(t, joined(longest, []int64{0}), nil, 0, impl.ErrRange)
		expectModes(t, joined(bytes, repeated(0, 5000)), nil, 0, impl.ErrRange)
		for _, wrong := range []int64{-1, 256, 257, 1 << 32, 1<<32 + 1, -256, least, greatest} {
			for index := range bytes {
				expectModes(t, with(bytes, index, wrong), nil, 0, impl.ErrRange)
			}
			for _, index := range []int{len(bytes), len(bytes) + 1, 1000, 1023} {
				expectModes(t, with(longest, index, wrong), nil, 0, impl.ErrRange)
			}
			expectModes(t, joined(bytes, []int64{wrong}), nil, 0, impl.ErrRange)
			expectModes(t, joined([]int64{0}, bytes, []int64{wrong}), nil, 0, impl.ErrRange)
			expectModes(t, joined(with(bytes, 0, 17), []int64{wrong}), nil, 0, impl.ErrRange)
			expectModes(t, joined(with(bytes, 1, 0), []int64{wrong}), nil, 0, impl.ErrRange)
			expectModes(t, joined(bytes[:len(bytes)-1], []int64{wrong}), nil, 0, impl.ErrRange)
		}
	}
}

func TestMayChange(t *testing.T) {
	for _, table := range manyModeTables() {
		for from := int64(-3); from <= 19; from++ {
			for to := int64(-3); to <= 19; to++ {
				isMode := from >= 0 && from < int64(len(table))
				expectChange(t, table, from, to, isMode && slices.Contains(table[from].Next, to))
			}
		}
	}
	for _, table := range someModeTables() {
		for _, wrong := range notModes(len(table)) {
			for mode := range int64(len(table)) {
				expectChange(t, table, wrong, mode, false)
				expectChange(t, table, mode, wrong, false)
			}
			expectChange(t, table, wrong, wrong, false)
		}
	}
}

func TestMayChangeOfWrongTables(t *testing.T) {
	for _, table := range notModeTables() {
		for _, from := range []int64{-1, 0, 1, 15, 16, least, greatest} {
			for _, to := range []int64{-1, 0, 1, 2, 15, 16, least, greatest} {
				expectChange(t, table, from, to, false)
			}
		}
		for from, x := range table[:min(len(table), 18)] {
			for _, to := range x.Next[:min(len(x.Next), 18)] {
				expectChange(t, table, int64(from), to, false)
			}
		}
	}
}

func TestKnownWays(t *testing.T) {
	chain := []impl.ModeInfo{{Rounds: 2, Slots: 3, Next: []int64{1}}, {Rounds: 1, Slots: 2, Next: []int64{2}}, {Rounds: 1, Slots: 1}}
	expectReachable(t, chain, 0, []int64{0, 1, 2}, impl.ErrNone)
	expectReachable(t, chain, 1, []int64{1, 2}, impl.ErrNone)
	expectReachable(t, chain, 2, []int64{2}, impl.ErrNone)
	expectWay(t, chain, 0, 2, []int64{0, 1, 2}, impl.ErrNone)
	expectWay(t, chain, 0, 0, []int64{0}, impl.ErrNone)
	expectWay(t, chain, 2, 0, nil, impl.ErrNotFound)
	expectWay(t, chain, 1, 0, nil, impl.ErrNotFound)
	alone := []impl.ModeInfo{{Rounds: 1, Slots: 1}}
	expectReachable(t, alone, 0, []int64{0}, impl.ErrNone)
	expectWay(t, alone, 0, 0, []int64{0}, impl.ErrNone)
	// From 0 to 5 there are the ways 0 1 4 5, 0 2 3 5, 0 2 4 5 and 0 1 2 3 5; from 0 to 4 there are 0 1 4 and 0 2 4.
	several := []impl.ModeInfo{
		{Rounds: 1, Slots: 1, Next: []int64{1, 2}}, {Rounds: 1, Slots: 1, Next: []int64{2, 4}}, {Rounds: 1, Slots: 1, Next: []int64{3, 4}},
		{Rounds: 1, Slots: 1, Next: []int64{5}}, {Rounds: 1, Slots: 1, Next: []int64{5}}, {Rounds: 1, Slots: 1},
	}
	expectWay(t, several, 0, 5, []int64{0, 1, 4, 5}, impl.ErrNone)
	expectWay(t, several, 0, 4, []int64{0, 1, 4}, impl.ErrNone)
	expectWay(t, several, 0, 3, []int64{0, 2, 3}, impl.ErrNone)
	expectWay(t, several, 2, 5, []int64{2, 3, 5}, impl.ErrNone)
	expectReachable(t, several, 1, []int64{1, 2, 3, 4, 5}, impl.ErrNone)
	// The shorter way 0 3 1 is taken, though 0 2 4 1 is lexicographically smaller.
	shorter := []impl.ModeInfo{
		{Rounds: 1, Slots: 1, Next: []int64{2, 3}}, {Rounds: 1, Slots: 1}, {Rounds: 1, Slots: 1, Next: []int64{4}},
		{Rounds: 1, Slots: 1, Next: []int64{1}}, {Rounds: 1, Slots: 1, Next: []int64{1}},
	}
	expectWay(t, shorter, 0, 1, []int64{0, 3, 1}, impl.ErrNone)
}

// checkWay checks what promise 9 says of a way that ModePath returns, with the program's other functions, and compares it
// with the best one, which is nil if there is none.
func checkWay(t *testing.T, table []impl.ModeInfo, from int64, to int64, best []int64) {
	t.Helper()
	way, code := impl.ModePath(table, from, to)
	reachable, reachableCode := impl.ReachableModes(table, from)
	if reachableCode != impl.ErrNone || (code == impl.ErrNone) != slices.Contains(reachable, to) {
		t.Errorf("ModePath %s from %d to %d: code %d, but %s are reachable", nameOfModes(table), from, to, code, listText(reachable))
	}
	if best == nil {
		expectWay(t, table, from, to, nil, impl.ErrNotFound)
		return
	}
	expectWay(t, table, from, to, best, impl.ErrNone)
	if len(way) == 0 || way[0] != from || way[len(way)-1] != to {
		t.Errorf("ModePath %s from %d to %d: %s", nameOfModes(table), from, to, listText(way))
	}
	for i, mode := range way {
		if !slices.Contains(reachable, mode) || i > 0 && !impl.MayChange(table, way[i-1], mode) {
			t.Errorf("ModePath %s from %d to %d: %s must not come to %d", nameOfModes(table), from, to, listText(way), mode)
		}
	}
}

// checkAllWays checks the ways of each pair of modes of a table.
func checkAllWays(t *testing.T, table []impl.ModeInfo, waysFrom func(table []impl.ModeInfo, from int64) [][]int64) {
	t.Helper()
	reachable := reachableByReference(table)
	for from := range int64(len(table)) {
		expectReachable(t, table, from, reachable[from], impl.ErrNone)
		for to, best := range waysFrom(table, from) {
			checkWay(t, table, from, int64(to), best)
			if (best != nil) != slices.Contains(reachable[from], int64(to)) {
				t.Errorf("the references differ for %s from %d to %d", nameOfModes(table), from, to)
			}
		}
		expectWay(t, table, from, from, []int64{from}, impl.ErrNone)
	}
}

// Promise 9: each step of a way is allowed, and of all ways it is the best one, in all tables of one to four modes.
func TestWaysOfAllSmallTables(t *testing.T) {
	for size := 1; size <= 4; size++ {
		for choice := range 1 << (size * (size - 1)) {
			bit := 0
			table := tableOfChanges(size, 295, func(from int, to int) bool {
				bit++
				return choice>>(bit-1)&1 == 1
			})
			checkAllWays(t, table, waysBySearch)
		}
	}
}

// Promise 9: the same in drawn tables of five to seven modes, in which all ways are tried.
func TestWaysOfDrawnTables(t *testing.T) {
	for seed := range uint64(600) {
		checkAllWays(t, drawnTable(5+int(seed%3), 10+int64(seed*7%60), seed+296), waysBySearch)
	}
}

// Promise 9: the same in all tables of the tests, and in large ones that follow no simple pattern.
func TestWaysOfManyTables(t *testing.T) {
	for _, table := range manyModeTables() {
		checkAllWays(t, table, waysByRelaxing)
	}
	for seed := range uint64(150) {
		checkAllWays(t, drawnTable(14+int(seed%3), 4+int64(seed%20), seed+297), waysByRelaxing)
	}
	for seed := range uint64(60) {
		checkAllWays(t, drawnTable(9+int(seed%8), 3+int64(seed%8), seed+298), waysBySearch)
	}
}

// Promise 9: of many ways of the greatest length the best one is taken, wherever a worse one parts from it.
func TestWaysOfLadders(t *testing.T) {
	ladder := tableOfChanges(16, 299, func(from int, to int) bool { return (to+1)/2 == (from+1)/2+1 })
	expectWay(t, ladder, 0, 15, []int64{0, 1, 3, 5, 7, 9, 11, 13, 15}, impl.ErrNone)
	expectWay(t, ladder, 2, 14, []int64{2, 3, 5, 7, 9, 11, 14}, impl.ErrNone)
	for missing := 1; missing <= 13; missing += 2 {
		table := tableOfChanges(16, 300, func(from int, to int) bool { return (to+1)/2 == (from+1)/2+1 && to != missing })
		want := []int64{0, 1, 3, 5, 7, 9, 11, 13, 15}
		want[(missing+1)/2]++
		expectWay(t, table, 0, 15, want, impl.ErrNone)
		checkAllWays(t, table, waysBySearch)
	}
	ring := tableOfChanges(16, 301, func(from int, to int) bool { return to == (from+1)%16 })
	for from := range int64(16) {
		expectReachable(t, ring, from, rising(16), impl.ErrNone)
		var want []int64
		for i := range int64(16) {
			want = append(want, (from+i)%16)
		}
		expectWay(t, ring, from, (from+15)%16, want, impl.ErrNone)
	}
}

// The errors come in their order: a list that is no table is told before a mode that is none, and this before one that
// cannot be reached.
func TestModesErrors(t *testing.T) {
	for _, table := range append(someModeTables(), drawnTable(16, 5, 302), drawnTable(2, 0, 303)) {
		for _, wrong := range notModes(len(table)) {
			expectReachable(t, table, wrong, nil, impl.ErrRange)
			expectCycle(t, table, wrong, 0, impl.ErrRange)
			expectWay(t, table, wrong, wrong, nil, impl.ErrRange)
			for mode := range int64(len(table)) {
				expectWay(t, table, mode, wrong, nil, impl.ErrRange)
				expectWay(t, table, wrong, mode, nil, impl.ErrRange)
			}
		}
	}
	for _, table := range notModeTables() {
		modes := append(notModes(len(table)), 0, 1, int64(len(table)-1))
		for i, mode := range modes {
			expectReachable(t, table, mode, nil, impl.ErrInvalid)
			expectCycle(t, table, mode, 0, impl.ErrInvalid)
			expectWay(t, table, mode, mode, nil, impl.ErrInvalid)
			expectWay(t, table, mode, modes[(i+1)%len(modes)], nil, impl.ErrInvalid)
		}
	}
}

func TestCycleSlots(t *testing.T) {
	for rounds := int64(1); rounds <= 8; rounds++ {
		for slots := int64(1); slots <= 16; slots++ {
			x := impl.ModeInfo{Rounds: rounds, Slots: slots}
			expectCycle(t, []impl.ModeInfo{x}, 0, rounds*slots, impl.ErrNone)
			for _, index := range []int{0, 8, 15} {
				expectCycle(t, withMode(drawnTable(16, 30, 304), index, x), int64(index), rounds*slots, impl.ErrNone)
			}
		}
	}
	for _, table := range manyModeTables() {
		for mode, x := range table {
			want := int64(0)
			for range x.Rounds {
				want += x.Slots
			}
			expectCycle(t, table, int64(mode), want, impl.ErrNone)
		}
	}
}

// The same call answers the same each time, in whatever order a map is gone through.
func TestModesAnswerTheSame(t *testing.T) {
	for _, table := range [][]impl.ModeInfo{drawnTable(16, 100, 305), drawnTable(16, 15, 306), tableOfChanges(16, 307, func(from int, to int) bool { return to/4 == from/4+1 })} {
		reachable := reachableByReference(table)
		for from := range int64(16) {
			best := waysByRelaxing(table, from)
			for range 40 {
				expectReachable(t, table, from, reachable[from], impl.ErrNone)
				for to, way := range best {
					if way != nil {
						expectWay(t, table, from, int64(to), way, impl.ErrNone)
					}
				}
			}
		}
	}
}

// markedMode is no entry of any table of the tests.
var markedMode = impl.ModeInfo{Rounds: mark, Slots: mark, Next: []int64{mark}}

// guardedModes is a copy of a mode table that stands between marks, and so does the Next of each entry.
type guardedModes struct {
	array []impl.ModeInfo
	table []impl.ModeInfo
	want  []impl.ModeInfo
	next  []guarded
}

func guardModes(table []impl.ModeInfo) guardedModes {
	var g guardedModes
	g.table, g.array = guardTable(table, markedMode)
	for i, x := range g.table {
		g.next = append(g.next, guard(x.Next))
		g.table[i].Next = g.next[i].list
	}
	g.want = slices.Clone(g.array)
	return g
}

// expectUntouched fails the test if the table, the Next of an entry or the memory around them has been changed.
func (g guardedModes) expectUntouched(t *testing.T, what string) {
	t.Helper()
	isUntouched := sameModes(g.array, g.want)
	for _, next := range g.next {
		isUntouched = isUntouched && next.isUntouched()
	}
	if !isUntouched {
		t.Errorf("%s changed the table %s or the memory around it", what, nameOfModes(g.table))
	}
}

// modeCalls are calls of the functions that return a list.
func modeCalls(size int64) map[string]func(table []impl.ModeInfo) []int64 {
	calls := map[string]func(table []impl.ModeInfo) []int64{
		"ModeTableBytes": func(table []impl.ModeInfo) []int64 { list, _ := impl.ModeTableBytes(table); return list },
	}
	for from := int64(-1); from <= size; from++ {
		calls[fmt.Sprintf("ReachableModes %d", from)] = func(table []impl.ModeInfo) []int64 { list, _ := impl.ReachableModes(table, from); return list }
		for to := int64(-1); to <= size; to++ {
			calls[fmt.Sprintf("ModePath %d %d", from, to)] = func(table []impl.ModeInfo) []int64 { list, _ := impl.ModePath(table, from, to); return list }
		}
	}
	return calls
}

func TestModesLeaveMemoryAlone(t *testing.T) {
	tables := slices.Concat(someModeTables(), tooLongModeTables()[:3], [][]impl.ModeInfo{nil, {}, {{}}, {{Rounds: 1, Slots: 1, Next: []int64{1, 0}}, {Rounds: 1, Slots: 1}}})
	for _, table := range tables {
		for name, call := range modeCalls(int64(len(table))) {
			g := guardModes(table)
			one, other := call(g.table), call(g.table)
			want := slices.Clone(one)
			if !slices.Equal(one, other) {
				t.Errorf("%s: a second call returned another result", name)
			}
			g.expectUntouched(t, name)
			fill(other[:cap(other)], mark-1)
			g.expectUntouched(t, name+": writing to the result")
			for _, next := range g.next {
				fill(next.array, mark)
			}
			if !slices.Equal(one, want) {
				t.Errorf("%s: the result shares memory with the table or another result", name)
			}
		}
		g := guardModes(table)
		impl.IsModeTable(g.table)
		for mode := int64(-1); mode <= int64(len(table)); mode++ {
			impl.MayChange(g.table, mode, 0)
			impl.CycleSlots(g.table, mode)
		}
		g.expectUntouched(t, "a call without a list as its result")
	}
}

func TestReadModeTableLeavesMemoryAlone(t *testing.T) {
	lists := append(memoryLists(), []int64{}, []int64{1}, []int64{256})
	for _, table := range someModeTables() {
		bytes := bytesOfModes(len(table), table)
		lists = append(lists, bytes, bytes[:len(bytes)-1], joined(bytes, []int64{1, 2}), with(bytes, 1, 77), with(bytes, 0, -1))
	}
	for _, list := range lists {
		checkMemory(t, "ReadModeTable "+shortened(list), func(l [][]int64) []int64 {
			table, size, code := impl.ReadModeTable(l[0])
			bytes := joined([]int64{size, code}, bytesOfModes(len(table), table))
			for i, x := range table {
				fill(x.Next[:cap(x.Next)], mark)
				table[i] = markedMode
			}
			return bytes
		}, list)
	}
}

// What is written into a result, or into the Next of one of its entries, changes nothing else, nor does a change of the list
// that has been read.
func TestModesKeepNothing(t *testing.T) {
	for _, table := range someModeTables() {
		list := bytesOfModes(len(table), table)
		read, _, _ := impl.ReadModeTable(list)
		again, _, _ := impl.ReadModeTable(list)
		bytes, _ := impl.ModeTableBytes(read)
		fill(list, mark)
		for i := range read {
			for k := i + 1; k < len(read); k++ {
				if !slices.Equal(read[k].Next, table[k].Next) {
					t.Errorf("the Next of the entry %d shares memory: %s", k, nameOfModes(table))
				}
			}
			fill(read[i].Next[:cap(read[i].Next)], mark)
			_ = append(read[i].Next, mark)
			read[i] = markedMode
		}
		if !sameModes(again, table) {
			t.Errorf("the table that is read shares memory: %s, want %s", nameOfModes(again), nameOfModes(table))
		}
		expectModes(t, bytes, table, int64(len(bytes)), impl.ErrNone)
		fill(bytes[:cap(bytes)], mark)
		expectModeBytes(t, again, bytesOfModes(len(table), table), impl.ErrNone)
	}
}
