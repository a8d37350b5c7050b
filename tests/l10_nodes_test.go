package tests

import (
	"fmt"
	"regexp"
	"slices"
	"strings"
	"testing"

	"loop.example/g00833/impl"
)

var namePattern = regexp.MustCompile(`\A[a-z0-9]{1,6}\z`)

// entryPattern are the bytes of a valid entry, each as a character: Id, Drift up to 3 * 256 + 232, Passive, and Name behind
// the number of its bytes.
var entryPattern = regexp.MustCompile(`(?s)\A([\x00-\x1f])([\x00-\x02].|\x03[\x00-\xe8])([\x00\x01])` +
	`(?:\x01([a-z0-9])|\x02([a-z0-9]{2})|\x03([a-z0-9]{3})|\x04([a-z0-9]{4})|\x05([a-z0-9]{5})|\x06([a-z0-9]{6}))`)

// isEntryByReference reports whether an entry of a node table is valid. It does not use the program.
func isEntryByReference(x impl.NodeInfo) bool {
	return x.Id >= 0 && x.Id <= 31 && x.Drift >= 0 && x.Drift <= 1000 && namePattern.MatchString(x.Name)
}

// isNodeTableByReference reports whether a list is a node table. It does not use the program.
func isNodeTableByReference(table []impl.NodeInfo) bool {
	names := map[string]bool{}
	for i, x := range table {
		if names[x.Name] || !isEntryByReference(x) || i > 0 && table[i-1].Id >= x.Id {
			return false
		}
		names[x.Name] = true
	}
	return len(table) >= 1 && len(table) <= 32
}

// bytesOfNodes returns the bytes of a list of entries, valid or not, with the number of entries that it is told. It does
// not use the program.
func bytesOfNodes(count int, table []impl.NodeInfo) []int64 {
	bytes := []int64{int64(count)}
	for _, x := range table {
		flag := int64(0)
		if x.Passive {
			flag = 1
		}
		bytes = append(bytes, bytesByReference(bitsOfText(textOfNumber(x.Id, 8)+textOfNumber(x.Drift, 16)))...)
		bytes = append(bytes, flag, int64(len(x.Name)))
		bytes = append(bytes, bytesOfString(x.Name)...)
	}
	return bytes
}

// charactersOf returns a text with one character for each byte. It does not use the program.
func charactersOf(bytes []int64) string {
	characters := make([]rune, len(bytes))
	for i, value := range bytes {
		characters[i] = rune(value)
	}
	return string(characters)
}

// nodesByReference returns what ReadNodeTable returns for a list. It does not use the program.
func nodesByReference(list []int64) ([]impl.NodeInfo, int64, int64) {
	if len(list) > 1024 || slices.ContainsFunc(list, func(value int64) bool { return value < 0 || value > 255 }) {
		return nil, 0, impl.ErrRange
	}
	if len(list) == 0 {
		return nil, 0, impl.ErrSyntax
	}
	var table []impl.NodeInfo
	at := 1
	for range list[0] {
		match := entryPattern.FindStringSubmatch(charactersOf(list[at:]))
		if match == nil {
			return nil, 0, impl.ErrSyntax
		}
		x := impl.NodeInfo{Id: list[at], Name: strings.Join(match[4:], ""), Drift: list[at+1]*256 + list[at+2], Passive: list[at+3] == 1}
		table = append(table, x)
		at += 5 + len(x.Name)
	}
	if !isNodeTableByReference(table) {
		return nil, 0, impl.ErrSyntax
	}
	return table, int64(at), impl.ErrNone
}

// worstByReference returns what WorstDrift returns for a node table and a time in 0..MaxTime. It does not use the program.
func worstByReference(table []impl.NodeInfo, time int64) int64 {
	sum := table[0].Drift
	for i, x := range table {
		for _, y := range table[:i] {
			sum = max(sum, x.Drift+y.Drift)
		}
	}
	worst := int64(0)
	for worst*1000000 < sum*time {
		worst++
	}
	return worst
}

// edgeDrifts are valid Drifts, at their ends and at the ends of a byte among them.
func edgeDrifts() []int64 {
	return []int64{0, 1, 2, 127, 128, 255, 256, 257, 300, 499, 500, 511, 512, 513, 767, 768, 769, 999, 1000}
}

// notDrifts are no Drifts.
func notDrifts() []int64 {
	return []int64{-1, 1001, -2, -255, -256, -1000, 1002, 1023, 1024, 1256, 1 << 16, 1<<16 + 5, 1 << 32, 1<<32 + 5, least, least + 5, greatest - 1, greatest}
}

// edgeNames are valid names that differ from one another.
func edgeNames() []string {
	return []string{"a", "z", "0", "9", "m", "5", "az", "za", "09", "90", "a0", "0a", "aa", "00", "zz", "99", "abc", "bc", "aaa", "abcdef", "zzzzzz", "000000", "999999", "abcde", "abcdeg", "bbcdef", "node1", "node2", "1node", "q2w3e4"}
}

// notNames are no names.
func notNames() []string {
	list := []string{"", "abcdefg", "aaaaaaa", "0000000", "abcdef ", " abcdef", "abcdef\x00", "ABCDEF", "é", "ab\xc3\xa9", "a\x80", "\xffa", "\uff41", strings.Repeat("a", 8), strings.Repeat("a", 255), strings.Repeat("a", 256), strings.Repeat("a", 257), strings.Repeat("a", 262), strings.Repeat("a", 1<<16+1)}
	for _, c := range []string{"A", "Z", "M", " ", "/", ":", "`", "{", "_", "-", ".", "@", "[", "\x00", "\x01", "\n", "\t", "\x1f", "~", "\x7f", "\x80", "\x81", "\xb0", "\xb9", "\xe1", "\xfa", "\xff"} {
		list = append(list, c, c+"a", "a"+c, "9"+c, "aa"+c+"bb", "aaaaa"+c, c+"00000", c+c+c+c+c+c)
	}
	return list
}

// someName returns a name that follows no simple pattern.
func someName(seed uint64) string {
	const characters = "abcdefghijklmnopqrstuvwxyz0123456789"
	var name strings.Builder
	size := 1 + mixed(1, 6, seed)[0]
	for _, index := range mixed(int(size), 36, seed+1) {
		name.WriteByte(characters[index])
	}
	return name.String()
}

// someNodes returns size nodes, strictly increasing.
func someNodes(size int, seed uint64) []int64 {
	nodes := rising(32)
	for _, index := range mixed(32-size, 1000, seed) {
		k := int(index) % len(nodes)
		nodes = slices.Delete(nodes, k, k+1)
	}
	return nodes
}

// someTable returns a node table of 1 to 32 entries that follows no simple pattern.
func someTable(size int, seed uint64) []impl.NodeInfo {
	names := map[string]bool{}
	drifts := append(edgeDrifts(), mixed(20, 1001, seed+2)...)
	which := mixed(size, int64(len(drifts)), seed+3)
	passive := mixed(size, 2, seed+4)
	var table []impl.NodeInfo
	for i, node := range someNodes(size, seed+5) {
		name := someName(seed*100 + uint64(i))
		for k := uint64(0); names[name]; k++ {
			name = someName(seed*100 + uint64(i) + 7919*k)
		}
		names[name] = true
		table = append(table, impl.NodeInfo{Id: node, Name: name, Drift: drifts[which[i]], Passive: passive[i] == 1})
	}
	return table
}

// fullTable returns a node table of 32 entries with names of a size of at least 2.
func fullTable(size int) []impl.NodeInfo {
	var table []impl.NodeInfo
	for node := range int64(32) {
		name := fmt.Sprintf("%02d", node) + strings.Repeat("x", size-2)
		table = append(table, impl.NodeInfo{Id: node, Name: name, Drift: node * 1000 / 31, Passive: node%3 == 1})
	}
	return table
}

// someTables returns a few node tables of different sizes.
func someTables() [][]impl.NodeInfo {
	list := [][]impl.NodeInfo{
		{{Id: 0, Name: "a", Drift: 0}},
		{{Id: 31, Name: "zzzzzz", Drift: 1000, Passive: true}},
		{{Id: 0, Name: "a", Drift: 300}, {Id: 3, Name: "bc", Drift: 5, Passive: true}},
		{{Id: 4, Name: "abcdef", Drift: 255}, {Id: 5, Name: "abcde", Drift: 256}, {Id: 31, Name: "0", Drift: 999}},
		fullTable(2), fullTable(6),
	}
	for size := 1; size <= 32; size += 3 {
		list = append(list, someTable(size, uint64(size)+180))
	}
	return list
}

// manyTables returns many node tables of each number of entries.
func manyTables() [][]impl.NodeInfo {
	list := someTables()
	for size := 1; size <= 32; size++ {
		for seed := range uint64(40) {
			list = append(list, someTable(size, 1000+seed*32+uint64(size)))
		}
	}
	for i, name := range edgeNames() {
		for k, drift := range edgeDrifts() {
			node := int64(i*19+k) % 31
			list = append(list, []impl.NodeInfo{{Id: node, Name: name, Drift: drift, Passive: k%2 == 1}, {Id: 31, Name: "other", Drift: 1000 - drift}})
		}
	}
	return list
}

// withEntry returns a copy of a table with another entry at an index.
func withEntry(table []impl.NodeInfo, index int, x impl.NodeInfo) []impl.NodeInfo {
	other := slices.Clone(table)
	other[index] = x
	return other
}

// badEntries returns an entry with each of the things that make it invalid.
func badEntries(x impl.NodeInfo) []impl.NodeInfo {
	var list []impl.NodeInfo
	for _, id := range notNodes() {
		list = append(list, impl.NodeInfo{Id: id, Name: x.Name, Drift: x.Drift, Passive: x.Passive})
	}
	for _, name := range notNames() {
		list = append(list, impl.NodeInfo{Id: x.Id, Name: name, Drift: x.Drift, Passive: x.Passive})
	}
	for _, drift := range notDrifts() {
		list = append(list, impl.NodeInfo{Id: x.Id, Name: x.Name, Drift: drift, Passive: x.Passive})
	}
	return append(list, impl.NodeInfo{}, impl.NodeInfo{Id: -1, Drift: -1}, impl.NodeInfo{Id: 32, Name: "A", Drift: 1001, Passive: true})
}

// badOrders returns lists of valid entries, with different names, whose Ids are not strictly increasing.
func badOrders() [][]impl.NodeInfo {
	var list [][]impl.NodeInfo
	for _, ids := range [][]int64{
		{0, 0}, {31, 31}, {5, 5}, {1, 0}, {31, 0}, {31, 30}, {0, 0, 1}, {0, 1, 1}, {0, 1, 0}, {1, 0, 2}, {0, 2, 1}, {2, 1, 0},
		{5, 6, 5}, {5, 5, 5}, {0, 31, 31}, {0, 31, 30}, {30, 31, 0}, {1, 2, 3, 4, 4}, {1, 1, 2, 3, 4}, {1, 2, 4, 3, 5},
	} {
		var table []impl.NodeInfo
		for i, id := range ids {
			table = append(table, impl.NodeInfo{Id: id, Name: edgeNames()[i], Drift: int64(i)})
		}
		list = append(list, table)
	}
	return list
}

// sameNames returns lists of valid entries with strictly increasing Ids of which two have the same name.
func sameNames() [][]impl.NodeInfo {
	var list [][]impl.NodeInfo
	for _, table := range [][]impl.NodeInfo{someTable(2, 190), someTable(3, 191), someTable(6, 192), someTable(32, 193), fullTable(6)} {
		for i := range table {
			for _, k := range []int{0, i - 1, i - 2, len(table) / 2, len(table) - 1} {
				if k >= 0 && k < i {
					x := table[i]
					x.Name = strings.Clone(table[k].Name)
					list = append(list, withEntry(table, i, x))
				}
			}
		}
	}
	return list
}

// tooLongTables returns lists of 33 and more entries, the first 32 of which are a node table.
func tooLongTables() [][]impl.NodeInfo {
	var list [][]impl.NodeInfo
	for _, table := range [][]impl.NodeInfo{fullTable(2), fullTable(6), someTable(32, 194)} {
		for _, id := range []int64{32, 33, 31, 30, 0, -1, 255} {
			longer := append(slices.Clone(table), impl.NodeInfo{Id: id, Name: "last", Drift: 7})
			list = append(list, longer, append(slices.Clone(longer), impl.NodeInfo{Id: id + 1, Name: "first"}))
		}
		list = append(list, append(slices.Clone(table), table...), append(slices.Clone(table), impl.NodeInfo{}))
	}
	return append(list, slices.Repeat(fullTable(3), 8), slices.Repeat(fullTable(3), 400))
}

// notNodeTables returns lists of entries that are no node tables, each for another reason.
func notNodeTables() [][]impl.NodeInfo {
	list := [][]impl.NodeInfo{nil, {}, {{}}}
	for _, table := range [][]impl.NodeInfo{someTables()[0], someTables()[2], someTable(5, 195), fullTable(6)} {
		for _, index := range []int{0, len(table) / 2, len(table) - 1} {
			for _, x := range badEntries(table[index]) {
				list = append(list, withEntry(table, index, x))
			}
		}
	}
	return slices.Concat(list, badOrders(), sameNames(), tooLongTables())
}

func nameOfTable(table []impl.NodeInfo) string {
	if len(table) > 6 {
		return fmt.Sprintf("%d entries %#v and so on", len(table), table[:6])
	}
	return fmt.Sprintf("%d entries %#v", len(table), table)
}

// expectRead fails the test if ReadNodeTable does not return these three values. It is called so often that the call is
// named only in a failure, as are those below.
func expectRead(t *testing.T, list []int64, want []impl.NodeInfo, wantSize int64, wantCode int64) {
	t.Helper()
	got, size, code := impl.ReadNodeTable(list)
	if !slices.Equal(got, want) || size != wantSize || code != wantCode {
		t.Errorf("ReadNodeTable %s: %s, size %d, code %d, want %s, size %d, code %d", shortened(list), nameOfTable(got), size, code, nameOfTable(want), wantSize, wantCode)
	}
}

func expectNodeBytes(t *testing.T, table []impl.NodeInfo, want []int64, wantCode int64) {
	t.Helper()
	if got, code := impl.NodeTableBytes(table); code != wantCode || !slices.Equal(got, want) {
		t.Errorf("NodeTableBytes %s: %s, code %d, want %s, code %d", nameOfTable(table), shortened(got), code, shortened(want), wantCode)
	}
}

func expectEntry(t *testing.T, x impl.NodeInfo, want bool) {
	t.Helper()
	if got := impl.IsNodeInfo(x); got != want {
		t.Errorf("IsNodeInfo %#v is %v", x, got)
	}
}

func expectTable(t *testing.T, table []impl.NodeInfo, want bool) {
	t.Helper()
	if got := impl.IsNodeTable(table); got != want {
		t.Errorf("IsNodeTable %s is %v", nameOfTable(table), got)
	}
}

func expectFound(t *testing.T, table []impl.NodeInfo, id int64, want impl.NodeInfo, wantCode int64) {
	t.Helper()
	if got, code := impl.FindNode(table, id); got != want || code != wantCode {
		t.Errorf("FindNode %s %d: %v, code %d, want %v, code %d", nameOfTable(table), id, got, code, want, wantCode)
	}
}

func expectActive(t *testing.T, table []impl.NodeInfo, want int64, wantCode int64) {
	t.Helper()
	if got, code := impl.ActiveVector(table); got != want || code != wantCode {
		t.Errorf("ActiveVector %s: %d, code %d, want %d, code %d", nameOfTable(table), got, code, want, wantCode)
	}
}

func expectWorst(t *testing.T, table []impl.NodeInfo, time int64, want int64, wantCode int64) {
	t.Helper()
	if got, code := impl.WorstDrift(table, time); got != want || code != wantCode {
		t.Errorf("WorstDrift %s %d: %d, code %d, want %d, code %d", nameOfTable(table), time, got, code, want, wantCode)
	}
}

// checkNodes compares ReadNodeTable of a list with the reference, and returns the code. What it accepts must begin with the
// bytes of the table that is read.
func checkNodes(t *testing.T, list []int64) int64 {
	t.Helper()
	table, size, code := nodesByReference(list)
	expectRead(t, list, table, size, code)
	if got, n, gotCode := impl.ReadNodeTable(list); gotCode == impl.ErrNone && n >= 0 && n <= int64(len(list)) {
		expectTable(t, got, true)
		expectNodeBytes(t, got, list[:n], impl.ErrNone)
	}
	return code
}

func TestConstantsOfNodes(t *testing.T) {
	expectList(t, "the constants", []int64{impl.MaxNodeName, impl.MaxDrift}, 0, []int64{6, 1000}, 0)
}

func TestIsNodeInfo(t *testing.T) {
	for _, x := range []struct {
		entry impl.NodeInfo
		want  bool
	}{
		{impl.NodeInfo{}, false},
		{impl.NodeInfo{Name: "a"}, true},
		{impl.NodeInfo{Name: "a", Passive: true}, true},
		{impl.NodeInfo{Id: -1, Name: "a"}, false},
		{impl.NodeInfo{Id: 31, Name: "a"}, true},
		{impl.NodeInfo{Id: 32, Name: "a"}, false},
		{impl.NodeInfo{Id: 1, Name: ""}, false},
		{impl.NodeInfo{Id: 1, Name: "abcdef"}, true},
		{impl.NodeInfo{Id: 1, Name: "abcdefg"}, false},
		{impl.NodeInfo{Id: 1, Name: "0z9a"}, true},
		{impl.NodeInfo{Id: 1, Name: "aB"}, false},
		{impl.NodeInfo{Id: 1, Name: "a b"}, false},
		{impl.NodeInfo{Id: 1, Name: "é"}, false},
		{impl.NodeInfo{Id: 1, Name: "`"}, false},
		{impl.NodeInfo{Id: 1, Name: "{"}, false},
		{impl.NodeInfo{Id: 1, Name: "/"}, false},
		{impl.NodeInfo{Id: 1, Name: ":"}, false},
		{impl.NodeInfo{Id: 1, Name: "a", Drift: -1}, false},
		{impl.NodeInfo{Id: 1, Name: "a", Drift: 255}, true},
		{impl.NodeInfo{Id: 1, Name: "a", Drift: 256}, true},
		{impl.NodeInfo{Id: 1, Name: "a", Drift: 1000}, true},
		{impl.NodeInfo{Id: 1, Name: "a", Drift: 1001}, false},
	} {
		expectEntry(t, x.entry, x.want)
	}
}

func TestIsNodeInfoOfManyEntries(t *testing.T) {
	for id := int64(-40); id <= 300; id++ {
		expectEntry(t, impl.NodeInfo{Id: id, Name: "a", Drift: 3}, id >= 0 && id <= 31)
	}
	for drift := int64(-1500); drift <= 2500; drift++ {
		expectEntry(t, impl.NodeInfo{Id: 7, Name: "a", Drift: drift, Passive: drift%2 == 0}, drift >= 0 && drift <= 1000)
	}
	for _, name := range edgeNames() {
		for _, drift := range edgeDrifts() {
			for node := range int64(32) {
				expectEntry(t, impl.NodeInfo{Id: node, Name: name, Drift: drift, Passive: node%2 == 1}, true)
			}
		}
	}
	for _, table := range someTables() {
		for _, x := range table {
			expectEntry(t, x, true)
			for _, bad := range badEntries(x) {
				expectEntry(t, bad, false)
			}
		}
	}
}

// Each byte is tried at each place of names of each size.
func TestIsNodeInfoOfAllNameBytes(t *testing.T) {
	for size := 1; size <= 8; size++ {
		for index := range size {
			for c := range 256 {
				name := []byte(strings.Repeat("k", size))
				name[index] = byte(c)
				isLetter := strings.IndexByte("abcdefghijklmnopqrstuvwxyz0123456789", byte(c)) >= 0
				expectEntry(t, impl.NodeInfo{Id: 3, Name: string(name)}, isLetter && size <= 6)
			}
		}
	}
}

func TestIsNodeTable(t *testing.T) {
	a, b, c := impl.NodeInfo{Id: 0, Name: "a"}, impl.NodeInfo{Id: 1, Name: "b", Drift: 1000, Passive: true}, impl.NodeInfo{Id: 31, Name: "c", Drift: 5}
	for _, x := range []struct {
		table []impl.NodeInfo
		want  bool
	}{
		{nil, false},
		{[]impl.NodeInfo{}, false},
		{[]impl.NodeInfo{a}, true},
		{[]impl.NodeInfo{c}, true},
		{[]impl.NodeInfo{a, b}, true},
		{[]impl.NodeInfo{b, a}, false},
		{[]impl.NodeInfo{a, a}, false},
		{[]impl.NodeInfo{a, c}, true},
		{[]impl.NodeInfo{a, b, c}, true},
		{[]impl.NodeInfo{a, c, b}, false},
		{[]impl.NodeInfo{a, b, {Id: 2, Name: "a"}}, false},
		{[]impl.NodeInfo{a, {Id: 1, Name: "a"}, c}, false},
		{[]impl.NodeInfo{a, b, {Id: 2, Name: "aa"}}, true},
		{[]impl.NodeInfo{a, b, {Id: 1, Name: "aa"}}, false},
		{[]impl.NodeInfo{a, b, {}}, false},
		{[]impl.NodeInfo{{}, b, c}, false},
		{[]impl.NodeInfo{a, b, {Id: 2, Name: "c", Drift: 1001}}, false},
	} {
		expectTable(t, x.table, x.want)
	}
}

func TestIsNodeTableOfManyTables(t *testing.T) {
	for _, table := range manyTables() {
		expectTable(t, table, true)
		for size := range table {
			expectTable(t, table[:size], size > 0)
			expectTable(t, table[size:], true)
		}
		reversed := slices.Clone(table)
		slices.Reverse(reversed)
		expectTable(t, reversed, len(table) == 1)
	}
	for _, table := range notNodeTables() {
		expectTable(t, table, false)
	}
}

// All pairs and triples of Ids and of two names are tried with one another.
func TestIsNodeTableOfAllOrders(t *testing.T) {
	for i := int64(-1); i <= 32; i++ {
		for k := int64(-1); k <= 32; k++ {
			table := []impl.NodeInfo{{Id: i, Name: "x"}, {Id: k, Name: "y"}}
			expectTable(t, table, isNodeTableByReference(table))
		}
	}
	for choice := range int64(1000 * 27) {
		ids, names := choice%1000, choice/1000
		table := []impl.NodeInfo{
			{Id: ids % 10 * 3, Name: "a" + fmt.Sprint(names%3)},
			{Id: ids / 10 % 10 * 3, Name: "a" + fmt.Sprint(names/3%3)},
			{Id: ids / 100 * 3, Name: "a" + fmt.Sprint(names/9)},
		}
		expectTable(t, table, isNodeTableByReference(table))
	}
}

func TestKnownNodeTables(t *testing.T) {
	for _, x := range []struct {
		table []impl.NodeInfo
		bytes []int64
	}{
		{[]impl.NodeInfo{{Name: "a"}}, []int64{1, 0, 0, 0, 0, 1, 97}},
		{[]impl.NodeInfo{{Id: 31, Name: "zzzzzz", Drift: 1000, Passive: true}}, []int64{1, 31, 3, 232, 1, 6, 122, 122, 122, 122, 122, 122}},
		{[]impl.NodeInfo{{Id: 0, Name: "a", Drift: 300}, {Id: 3, Name: "bc", Drift: 5, Passive: true}}, []int64{2, 0, 1, 44, 0, 1, 97, 3, 0, 5, 1, 2, 98, 99}},
		{[]impl.NodeInfo{{Id: 7, Name: "09", Drift: 255}, {Id: 8, Name: "a0b", Drift: 256}, {Id: 20, Name: "n1", Drift: 999}}, []int64{3, 7, 0, 255, 0, 2, 48, 57, 8, 1, 0, 0, 3, 97, 48, 98, 20, 3, 231, 0, 2, 110, 49}},
	} {
		expectNodeBytes(t, x.table, x.bytes, impl.ErrNone)
		expectRead(t, x.bytes, x.table, int64(len(x.bytes)), impl.ErrNone)
		expectList(t, "the reference", bytesOfNodes(len(x.table), x.table), 0, x.bytes, 0)
	}
	bytes, code := impl.NodeTableBytes(fullTable(6))
	expectNumber(t, "the size of the longest table", int64(len(bytes)), code, 353, impl.ErrNone)
}

func TestNodeTableBytesErrors(t *testing.T) {
	for _, table := range notNodeTables() {
		expectNodeBytes(t, table, nil, impl.ErrInvalid)
	}
}

// Promise 1, tables: node tables are recovered from their bytes, whatever follows these.
func TestNodeTablesAreRecovered(t *testing.T) {
	for i, table := range manyTables() {
		bytes, code := impl.NodeTableBytes(table)
		if want := bytesOfNodes(len(table), table); code != impl.ErrNone || !slices.Equal(bytes, want) {
			t.Errorf("NodeTableBytes %s: %s, code %d, want %s", nameOfTable(table), shortened(bytes), code, listText(want))
		}
		size := int64(len(bytes))
		expectRead(t, bytes, table, size, impl.ErrNone)
		for _, behind := range [][]int64{{0}, {1}, {255}, {31, 0, 0, 0, 1, 97}, bytes, mixed(i%300, 256, 196), repeated(0, 1024-len(bytes)), repeated(255, 1024-len(bytes))} {
			expectRead(t, joined(bytes, behind), table, size, impl.ErrNone)
		}
	}
}

// Promise 1, tables: each Id, Drift, value of Passive and size of a name is recovered.
func TestAllEntriesAreRecovered(t *testing.T) {
	for drift := range int64(1001) {
		name := someName(uint64(drift) + 197)
		for _, passive := range []bool{false, true} {
			x := impl.NodeInfo{Id: drift % 31, Name: name, Drift: drift, Passive: passive}
			table := []impl.NodeInfo{x, {Id: 31, Name: "other", Drift: 1000 - drift, Passive: !passive}}
			bytes, _ := impl.NodeTableBytes(table)
			expectList(t, "the bytes", bytes, 0, bytesOfNodes(2, table), 0)
			expectRead(t, bytes, table, int64(len(bytes)), impl.ErrNone)
		}
	}
	for node := range int64(32) {
		for _, name := range edgeNames() {
			table := []impl.NodeInfo{{Id: node, Name: name, Drift: node * 32}}
			bytes, _ := impl.NodeTableBytes(table)
			expectList(t, "the bytes", bytes, 0, bytesOfNodes(1, table), 0)
			expectRead(t, joined(bytes, []int64{9}), table, int64(len(bytes)), impl.ErrNone)
		}
	}
}

// Promise 1, tables: bytes that are read are those of the table, whichever byte of a table is another one.
func TestReadBytesAreThoseOfTheTable(t *testing.T) {
	accepted := 0
	for _, table := range someTables() {
		bytes := bytesOfNodes(len(table), table)
		step := 1 + len(bytes)/12
		for index := range bytes {
			for value := int64(index % step); value < 256; value += int64(step) {
				if checkNodes(t, joined(with(bytes, index, value), mixed(12, 3, 198))) == impl.ErrNone {
					accepted++
				}
			}
		}
	}
	if accepted < 1000 {
		t.Errorf("only %d of the changed tables are tables again", accepted)
	}
}

// Promise 1, tables: all short lists of a few bytes are tried.
func TestReadNodeTableOfAllShortLists(t *testing.T) {
	values := []int64{0, 1, 2, 97}
	for size := range 9 {
		count := 1
		for range size {
			count *= len(values)
		}
		for choice := range count {
			list := make([]int64, size)
			for i := range list {
				list[i] = values[choice%len(values)]
				choice /= len(values)
			}
			checkNodes(t, list)
		}
	}
}

// Promise 1, tables: lists that follow no simple pattern, some of them nearly tables, are tried.
func TestReadNodeTableOfMixedLists(t *testing.T) {
	for seed := range uint64(3000) {
		checkNodes(t, mixed(int(seed%40), 256, seed+199))
		checkNodes(t, mixed(int(seed%40), 4, seed+200))
		table := someTable(1+int(seed%5), seed+201)
		bytes := joined(bytesOfNodes(len(table), table), bytesOfNodes(1, table))
		change := mixed(6, 1000, seed+202)
		for i := range 3 {
			index := int(change[i]) % len(bytes)
			bytes = with(bytes, index, (bytes[index]+change[i+3])%256)
			checkNodes(t, bytes)
		}
	}
}

func TestReadNodeTableCutOff(t *testing.T) {
	for _, table := range append(someTables(), someTable(32, 203), someTable(9, 204)) {
		bytes := bytesOfNodes(len(table), table)
		for size := range bytes {
			expectRead(t, bytes[:size], nil, 0, impl.ErrSyntax)
			expectRead(t, slices.Clip(bytes[:size]), nil, 0, impl.ErrSyntax)
		}
	}
}

func TestReadNodeTableWithAnotherCount(t *testing.T) {
	for _, table := range append(someTables(), someTable(32, 205), someTable(31, 206)) {
		for count := range int64(256) {
			list := bytesOfNodes(int(count), table)
			switch size := int64(len(table)); {
			case count == 0 || count > size:
				expectRead(t, list, nil, 0, impl.ErrSyntax)
				expectRead(t, joined(list, repeated(0, 600)), nil, 0, impl.ErrSyntax)
			default:
				want := table[:count]
				expectRead(t, list, want, int64(len(bytesOfNodes(int(count), want))), impl.ErrNone)
			}
		}
	}
	expectRead(t, nil, nil, 0, impl.ErrSyntax)
	expectRead(t, []int64{}, nil, 0, impl.ErrSyntax)
	for count := range int64(256) {
		expectRead(t, []int64{count}, nil, 0, impl.ErrSyntax)
		expectRead(t, joined([]int64{count}, repeated(0, 1023)), nil, 0, impl.ErrSyntax)
		expectRead(t, repeated(count, 1024), nil, 0, impl.ErrSyntax)
	}
}

// The bytes of lists of entries that are no node table, but for Ids, Drifts and names that have no such bytes, are tried.
func TestReadNodeTableOfWrongEntries(t *testing.T) {
	for _, table := range notNodeTables() {
		hasBytes := len(table) < 256
		for _, x := range table {
			hasBytes = hasBytes && x.Id >= 0 && x.Id < 256 && x.Drift >= 0 && x.Drift < 1<<16 && len(x.Name) < 256
		}
		if !hasBytes {
			continue
		}
		list := bytesOfNodes(len(table), table)
		if len(list) > 1024 {
			continue
		}
		expectRead(t, list, nil, 0, impl.ErrSyntax)
		expectRead(t, joined(list, repeated(97, 1024-len(list))), nil, 0, impl.ErrSyntax)
	}
}

// Each byte is tried for Id, both bytes of Drift, Passive and the number of bytes of Name, in the first, a middle and the
// last entry.
func TestReadNodeTableOfAllBytes(t *testing.T) {
	table := []impl.NodeInfo{{Id: 2, Name: "abc", Drift: 300}, {Id: 9, Name: "xyz000", Drift: 768, Passive: true}, {Id: 20, Name: "q", Drift: 1000}}
	bytes := bytesOfNodes(3, table)
	for _, start := range []int{1, 9, 20} {
		for value := range int64(256) {
			for offset := range 5 {
				checkNodes(t, joined(with(bytes, start+offset, value), repeated(98, 300)))
			}
			checkNodes(t, with(with(bytes, start+1, 3), start+2, value))
			if _, _, code := impl.ReadNodeTable(with(bytes, start+3, value)); (code == impl.ErrNone) != (value <= 1) {
				t.Errorf("the byte %d for Passive: code %d", value, code)
			}
		}
	}
	for size := range int64(256) {
		list := joined([]int64{1, 5, 0, 9, 0, size}, repeated(99, 300))
		if size < 1 || size > 6 {
			expectRead(t, list, nil, 0, impl.ErrSyntax)
			continue
		}
		expectRead(t, list, []impl.NodeInfo{{Id: 5, Name: "cccccc"[:size], Drift: 9}}, 6+size, impl.ErrNone)
	}
	for drift := range int64(1 << 16) {
		list := []int64{1, 5, drift / 256, drift % 256, 1, 1, 99}
		if drift > 1000 {
			expectRead(t, list, nil, 0, impl.ErrSyntax)
			continue
		}
		expectRead(t, list, []impl.NodeInfo{{Id: 5, Name: "c", Drift: drift, Passive: true}}, 7, impl.ErrNone)
	}
}

func TestReadNodeTableErrors(t *testing.T) {
	for _, list := range notBytes() {
		expectRead(t, list, nil, 0, impl.ErrRange)
	}
	for _, table := range append(someTables(), someTable(32, 207)) {
		bytes := bytesOfNodes(len(table), table)
		longest := joined(bytes, mixed(1024-len(bytes), 256, 208))
		expectRead(t, longest, table, int64(len(bytes)), impl.ErrNone)
		expectRead(t, joined(longest, []int64{0}), nil, 0, impl.ErrRange)
		expectRead(t, joined(bytes, repeated(0, 5000)), nil, 0, impl.ErrRange)
		for _, wrong := range []int64{-1, 256, 257, 1 << 32, -256, least, greatest} {
			for index := range bytes {
				expectRead(t, with(bytes, index, wrong), nil, 0, impl.ErrRange)
			}
			for _, index := range []int{len(bytes), len(bytes) + 1, 1000, 1023} {
				expectRead(t, with(longest, index, wrong), nil, 0, impl.ErrRange)
			}
			expectRead(t, joined(bytes, []int64{wrong}), nil, 0, impl.ErrRange)
			expectRead(t, joined([]int64{0}, bytes, []int64{wrong}), nil, 0, impl.ErrRange)
			expectRead(t, joined(with(bytes, 0, 33), []int64{wrong}), nil, 0, impl.ErrRange)
			expectRead(t, joined(with(bytes, 1, 32), []int64{wrong}), nil, 0, impl.ErrRange)
			expectRead(t, joined(bytes[:len(bytes)-1], []int64{wrong}), nil, 0, impl.ErrRange)
		}
	}
}

func TestFindNode(t *testing.T) {
	for _, table := range manyTables() {
		found := map[int64]impl.NodeInfo{}
		for _, x := range table {
			found[x.Id] = x
		}
		for id := int64(-3); id <= 36; id++ {
			x, ok := found[id]
			if ok {
				expectFound(t, table, id, x, impl.ErrNone)
			} else {
				expectFound(t, table, id, impl.NodeInfo{}, impl.ErrNotFound)
			}
		}
	}
	for _, table := range someTables() {
		for _, id := range notNodes() {
			expectFound(t, table, id, impl.NodeInfo{}, impl.ErrNotFound)
		}
	}
}

// The errors come in their order: a list that is no table is told before an Id that is not found.
func TestFindNodeErrors(t *testing.T) {
	for _, table := range notNodeTables() {
		ids := []int64{0, 1, 31, 32, -1, least, greatest}
		if len(table) > 0 {
			ids = append(ids, table[0].Id, table[len(table)-1].Id)
		}
		for _, id := range ids {
			expectFound(t, table, id, impl.NodeInfo{}, impl.ErrInvalid)
		}
	}
}

func TestActiveVector(t *testing.T) {
	for _, x := range []struct {
		table []impl.NodeInfo
		want  int64
	}{
		{[]impl.NodeInfo{{Id: 0, Name: "a"}}, 1},
		{[]impl.NodeInfo{{Id: 0, Name: "a", Passive: true}}, 0},
		{[]impl.NodeInfo{{Id: 31, Name: "a"}}, 1 << 31},
		{[]impl.NodeInfo{{Id: 31, Name: "a", Passive: true}}, 0},
		{[]impl.NodeInfo{{Id: 0, Name: "a"}, {Id: 3, Name: "bc", Passive: true}}, 1},
		{[]impl.NodeInfo{{Id: 0, Name: "a", Passive: true}, {Id: 3, Name: "bc"}, {Id: 31, Name: "d"}}, 1<<31 + 8},
	} {
		expectActive(t, x.table, x.want, impl.ErrNone)
	}
	for _, table := range manyTables() {
		text := []byte(strings.Repeat("0", 32))
		for _, x := range table {
			if !x.Passive {
				text[31-x.Id] = '1'
			}
		}
		expectActive(t, table, numberOfBits(bitsOfText(string(text))), impl.ErrNone)
	}
	none, all := fullTable(6), fullTable(6)
	for i := range all {
		none[i].Passive, all[i].Passive = true, false
	}
	expectActive(t, none, 0, impl.ErrNone)
	expectActive(t, all, 1<<32-1, impl.ErrNone)
	for _, table := range notNodeTables() {
		expectActive(t, table, 0, impl.ErrInvalid)
	}
}

// tableOfDrifts returns a node table whose entries have these Drifts.
func tableOfDrifts(drifts ...int64) []impl.NodeInfo {
	var table []impl.NodeInfo
	for i, drift := range drifts {
		table = append(table, impl.NodeInfo{Id: int64(i), Name: edgeNames()[i], Drift: drift, Passive: i%2 == 0})
	}
	return table
}

func TestWorstDrift(t *testing.T) {
	for _, x := range []struct {
		drifts []int64
		time   int64
		want   int64
	}{
		{[]int64{300, 5}, 10000, 4}, {[]int64{5, 300}, 10000, 4},
		{[]int64{0}, 65535, 0}, {[]int64{0, 0, 0}, 65535, 0},
		{[]int64{1}, 0, 0}, {[]int64{1}, 1, 1}, {[]int64{1}, 65535, 1},
		{[]int64{1000}, 1, 1}, {[]int64{1000}, 999, 1}, {[]int64{1000}, 1000, 1}, {[]int64{1000}, 1001, 2}, {[]int64{1000}, 2000, 2}, {[]int64{1000}, 2001, 3},
		{[]int64{1000}, 65535, 66}, {[]int64{1000, 1000}, 65535, 132}, {[]int64{1000, 1000, 1000}, 65535, 132}, {[]int64{1000, 0}, 65000, 65},
		{[]int64{1000, 1000}, 500, 1}, {[]int64{1000, 1000}, 501, 2}, {[]int64{1000, 1000}, 499, 1}, {[]int64{1000, 1000}, 1, 1}, {[]int64{1000, 1000}, 0, 0},
		{[]int64{16}, 62499, 1}, {[]int64{16}, 62500, 1}, {[]int64{16}, 62501, 2},
		{[]int64{100, 200, 300}, 2000, 1}, {[]int64{300, 200, 100}, 2001, 2}, {[]int64{200, 300, 100}, 4000, 2}, {[]int64{100, 300, 200}, 4001, 3},
		{[]int64{1, 999, 2}, 999, 1}, {[]int64{1, 999, 2}, 1000, 2}, {[]int64{250, 250, 250}, 2000, 1}, {[]int64{250, 250, 250}, 2001, 2},
	} {
		expectWorst(t, tableOfDrifts(x.drifts...), x.time, x.want, impl.ErrNone)
	}
}

func TestWorstDriftOfManyTables(t *testing.T) {
	for i, table := range manyTables() {
		times := append(mixed(3, 65536, uint64(i)+209), 0, 1, 65534, 65535)
		for _, time := range times {
			expectWorst(t, table, time, worstByReference(table, time), impl.ErrNone)
		}
	}
	for sum := int64(0); sum <= 2000; sum++ {
		table := tableOfDrifts(max(sum-1000, 0), 0, min(sum, 1000))
		if sum == 0 {
			expectWorst(t, table, 65535, 0, impl.ErrNone)
			continue
		}
		for worst := int64(1); worst*1000000 <= sum*65534; worst += 1 + sum/300 {
			time := worst * 1000000 / sum
			for _, near := range []int64{time - 1, time, time + 1} {
				expectWorst(t, table, near, worstByReference(table, near), impl.ErrNone)
			}
		}
	}
}

// All orders of four Drifts, some of them equal, are tried.
func TestWorstDriftOfAllOrders(t *testing.T) {
	values := []int64{0, 7, 400, 1000}
	for choice := range 256 {
		table := tableOfDrifts(values[choice%4], values[choice/4%4], values[choice/16%4], values[choice/64])
		for _, time := range []int64{1, 1000, 2500, 10000, 65535} {
			for size := 1; size <= 4; size++ {
				expectWorst(t, table[:size], time, worstByReference(table[:size], time), impl.ErrNone)
			}
		}
	}
}

// The errors come in their order: a list that is no table is told before a time that is out of its range.
func TestWorstDriftErrors(t *testing.T) {
	notTimes := []int64{-1, 65536, -2, 65537, -65535, -65536, 1 << 17, 1 << 32, 1<<32 + 1, -1 << 32, least, least + 1, greatest - 1, greatest}
	for _, table := range someTables() {
		for _, time := range notTimes {
			expectWorst(t, table, time, 0, impl.ErrRange)
		}
	}
	for _, table := range notNodeTables() {
		for _, time := range append(notTimes, 0, 1, 65535) {
			expectWorst(t, table, time, 0, impl.ErrInvalid)
		}
	}
}

// guardTable returns a copy of a table that stands between marks, as a part of a longer array, and this array.
func guardTable[T any](table []T, mark T) (inner []T, array []T) {
	array = slices.Concat([]T{mark}, table, slices.Repeat([]T{mark}, 40))
	return array[1 : 1+len(table)], array
}

// markedEntry is no entry of any table of the tests.
var markedEntry = impl.NodeInfo{Id: mark, Name: "no node", Drift: mark, Passive: true}

func TestNodesLeaveMemoryAlone(t *testing.T) {
	for _, table := range slices.Concat(someTables(), badOrders(), sameNames()[:3], tooLongTables()[:3], [][]impl.NodeInfo{nil, {}, {{}}}) {
		inner, array := guardTable(table, markedEntry)
		want := slices.Clone(array)
		bytes, code := impl.NodeTableBytes(inner)
		again, _ := impl.NodeTableBytes(inner)
		impl.IsNodeTable(inner)
		impl.FindNode(inner, 3)
		impl.FindNode(inner, 40)
		impl.ActiveVector(inner)
		impl.WorstDrift(inner, 500)
		impl.WorstDrift(inner, -1)
		fill(bytes[:cap(bytes)], mark)
		if !slices.Equal(array, want) {
			t.Errorf("a call changed the table %s or the memory around it", nameOfTable(table))
		}
		if code == impl.ErrNone {
			expectList(t, "the bytes after writing to others", again, 0, bytesOfNodes(len(table), table), 0)
			expectNodeBytes(t, inner, bytesOfNodes(len(table), table), impl.ErrNone)
		}
	}
}

func TestReadNodeTableLeavesMemoryAlone(t *testing.T) {
	lists := append(memoryLists(), []int64{}, []int64{1}, []int64{256})
	for _, table := range someTables() {
		bytes := bytesOfNodes(len(table), table)
		lists = append(lists, bytes, bytes[:len(bytes)-1], joined(bytes, []int64{1, 2}), with(bytes, 1, 77), with(bytes, 0, -1))
	}
	for _, list := range lists {
		checkMemory(t, "ReadNodeTable "+shortened(list), func(l [][]int64) []int64 {
			table, size, code := impl.ReadNodeTable(l[0])
			bytes := joined([]int64{size, code}, bytesOfNodes(len(table), table))
			for i := range table[:cap(table)] {
				table[:cap(table)][i] = markedEntry
			}
			return bytes
		}, list)
	}
}

// What is written into a result changes no other result, nor does a change of the list that has been read.
func TestNodesKeepNothing(t *testing.T) {
	for _, table := range someTables() {
		list := bytesOfNodes(len(table), table)
		read, _, _ := impl.ReadNodeTable(list)
		again, _, _ := impl.ReadNodeTable(list)
		bytes, _ := impl.NodeTableBytes(read)
		for i := range read {
			read[i] = markedEntry
		}
		fill(list, mark)
		if !slices.Equal(again, table) {
			t.Errorf("the table that is read shares memory: %s, want %s", nameOfTable(again), nameOfTable(table))
		}
		expectRead(t, bytes, table, int64(len(bytes)), impl.ErrNone)
		fill(bytes[:cap(bytes)], mark)
		expectNodeBytes(t, again, bytesOfNodes(len(table), table), impl.ErrNone)
	}
}
