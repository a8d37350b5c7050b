package tests

import (
	"fmt"
	"slices"
	"strconv"
	"strings"
	"testing"

	"loop.example/g00833/impl"
)

// allMembers is the vector in which all nodes are members.
const allMembers = 4294967295

// mixedVectors returns vectors that follow no simple pattern.
func mixedVectors(size int, seed uint64) []int64 {
	list := mixed(size, 1<<31, seed)
	// The generator has no more than 31 bits at once.
	for i, bit := range mixed(size, 2, seed+977) {
		list[i] = list[i]*2 + bit
	}
	return list
}

// vectors returns vectors at their ends, with one member, without one member, and mixed ones.
func vectors() []int64 {
	list := []int64{0, 1, 2, 3, 5, 6, 7, 0x55555555, 0xAAAAAAAA, 0xFFFF, 0xFFFF0000, allMembers - 1, allMembers}
	for node := range 32 {
		list = append(list, 1<<node, allMembers-1<<node, 1<<node-1)
	}
	return append(list, mixedVectors(100, 60)...)
}

func notVectors() []int64 {
	list := []int64{-1, 1 << 32, -2, -3, -5, -32, -allMembers, -allMembers - 1, -allMembers - 2, 1<<32 + 1, 1<<32 + 5, 1<<33 - 1, 1 << 33, 1 << 40, 1<<48 + 7, 1 << 62, 1<<62 + 1, least, least + 1, least + 5, greatest - 1, greatest}
	return list
}

func notNodes() []int64 {
	return []int64{-1, 32, -2, -31, -32, -33, -63, -64, -65, 33, 34, 63, 64, 65, 96, 256, 1 << 31, 1 << 32, 1<<32 + 1, 1<<32 + 31, -1 << 32, least, least + 1, greatest - 1, greatest}
}

// membersByReference returns the nodes that are members of a vector. It does not use the program.
func membersByReference(members int64) []int64 {
	var nodes []int64
	text := textOfNumber(members, 32)
	for node := range 32 {
		if text[31-node] == '1' {
			nodes = append(nodes, int64(node))
		}
	}
	return nodes
}

// vectorByReference returns the vector of some nodes. It does not use the program.
func vectorByReference(nodes []int64) int64 {
	text := []byte(strings.Repeat("0", 32))
	for _, node := range nodes {
		text[31-node] = '1'
	}
	members, _ := strconv.ParseInt(string(text), 2, 64)
	return members
}

// without returns a vector without a node that is a member of it. It does not use the program.
func without(members int64, node int64) int64 {
	nodes := slices.DeleteFunc(membersByReference(members), func(n int64) bool { return n == node })
	return vectorByReference(nodes)
}

// shuffled returns the elements of a list in an order that follows no simple pattern.
func shuffled(list []int64, seed uint64) []int64 {
	other := slices.Clone(list)
	for i, place := range mixed(len(other), 1<<31, seed) {
		k := int(place) % (i + 1)
		other[i], other[k] = other[k], other[i]
	}
	return other
}

// rising returns the numbers below size.
func rising(size int) []int64 {
	list := make([]int64, size)
	for i := range list {
		list[i] = int64(i)
	}
	return list
}

func falling(size int) []int64 {
	list := rising(size)
	slices.Reverse(list)
	return list
}

// wrongLists returns lists of some sizes that have one wrong element, at each place, beside right ones, and lists that
// have no right one.
func wrongLists(right func(size int) []int64, wrong []int64) [][]int64 {
	var lists [][]int64
	for _, size := range []int{1, 2, 3, 16, 31, 32} {
		for _, element := range wrong {
			for index := range size {
				lists = append(lists, with(right(size), index, element))
			}
			lists = append(lists, repeated(element, size))
		}
	}
	return lists
}

func TestHasMember(t *testing.T) {
	for _, x := range []struct {
		members, node int64
		want          bool
	}{
		{5, 0, true}, {5, 1, false}, {5, 2, true}, {5, 3, false}, {5, 31, false},
		{0, 0, false}, {0, 31, false}, {1, 0, true}, {1, 1, false}, {1, 31, false},
		{allMembers, 0, true}, {allMembers, 15, true}, {allMembers, 31, true}, {allMembers, 32, false}, {allMembers, -1, false},
		{1 << 31, 31, true}, {1 << 31, 30, false}, {1 << 31, 0, false}, {1<<31 - 1, 31, false}, {1<<31 - 1, 30, true},
		{-1, 0, false}, {-1, 31, false}, {-1, 63, false}, {1 << 32, 32, false}, {1<<32 + 1, 0, false}, {1 << 32, 0, false}, {1<<33 - 1, 31, false},
	} {
		if got := impl.HasMember(x.members, x.node); got != x.want {
			t.Errorf("HasMember %d %d is %v", x.members, x.node, got)
		}
	}
}

func TestHasMemberOfManyVectors(t *testing.T) {
	for _, members := range vectors() {
		nodes := membersByReference(members)
		for node := range int64(32) {
			if got := impl.HasMember(members, node); got != slices.Contains(nodes, node) {
				t.Errorf("HasMember %d %d is %v", members, node, got)
			}
		}
		for _, node := range notNodes() {
			if impl.HasMember(members, node) {
				t.Errorf("HasMember %d %d is true", members, node)
			}
		}
	}
	for _, members := range notVectors() {
		for _, node := range joined(rising(32), notNodes()) {
			if impl.HasMember(members, node) {
				t.Errorf("HasMember %d %d is true", members, node)
			}
		}
	}
}

func TestSetMember(t *testing.T) {
	for _, x := range []struct {
		members, node int64
		member        bool
		want          int64
	}{
		{5, 1, true, 7}, {5, 2, false, 1}, {5, 0, false, 4},
		{5, 2, true, 5}, {5, 0, true, 5}, {5, 1, false, 5}, {5, 31, false, 5},
		{0, 0, true, 1}, {0, 0, false, 0}, {1, 0, false, 0}, {1, 0, true, 1},
		{0, 31, true, 1 << 31}, {0, 31, false, 0}, {1 << 31, 31, false, 0}, {1 << 31, 31, true, 1 << 31},
		{allMembers, 0, true, allMembers}, {allMembers, 0, false, allMembers - 1},
		{allMembers, 31, true, allMembers}, {allMembers, 31, false, 1<<31 - 1},
		{allMembers - 1, 0, true, allMembers}, {1<<31 - 1, 31, true, allMembers},
	} {
		got, code := impl.SetMember(x.members, x.node, x.member)
		expectNumber(t, fmt.Sprint("SetMember ", x.members, x.node, x.member), got, code, x.want, impl.ErrNone)
	}
}

func TestSetMemberOfManyVectors(t *testing.T) {
	for _, members := range vectors() {
		for node := range int64(32) {
			removed := without(members, node)
			got, code := impl.SetMember(members, node, false)
			expectNumber(t, fmt.Sprint("SetMember to false ", members, " ", node), got, code, removed, impl.ErrNone)
			added := vectorByReference(append(membersByReference(members), node))
			got, code = impl.SetMember(members, node, true)
			expectNumber(t, fmt.Sprint("SetMember to true ", members, " ", node), got, code, added, impl.ErrNone)
		}
	}
}

func TestSetMemberErrors(t *testing.T) {
	expectError := func(members int64, node int64) {
		for _, member := range []bool{false, true} {
			got, code := impl.SetMember(members, node, member)
			expectNumber(t, fmt.Sprint("SetMember ", members, node, member), got, code, 0, impl.ErrRange)
		}
	}
	for _, node := range notNodes() {
		for _, members := range joined(vectors(), notVectors()) {
			expectError(members, node)
		}
	}
	for _, members := range notVectors() {
		for node := range int64(32) {
			expectError(members, node)
		}
	}
}

func TestMembersOf(t *testing.T) {
	for _, x := range []struct {
		members int64
		want    []int64
	}{
		{0, nil}, {1, []int64{0}}, {2, []int64{1}}, {3, []int64{0, 1}}, {5, []int64{0, 2}},
		{1 << 31, []int64{31}}, {1<<31 + 1, []int64{0, 31}}, {1<<30 + 1<<15 + 1<<7, []int64{7, 15, 30}},
		{allMembers, rising(32)}, {allMembers - 1, rising(32)[1:]}, {1<<31 - 1, rising(31)},
	} {
		got, code := impl.MembersOf(x.members)
		expectList(t, fmt.Sprint("MembersOf ", x.members), got, code, x.want, impl.ErrNone)
	}
	for _, members := range vectors() {
		got, code := impl.MembersOf(members)
		expectList(t, fmt.Sprint("MembersOf ", members), got, code, membersByReference(members), impl.ErrNone)
	}
	for _, members := range notVectors() {
		got, code := impl.MembersOf(members)
		expectList(t, fmt.Sprint("MembersOf ", members), got, code, nil, impl.ErrRange)
	}
}

func TestVectorOf(t *testing.T) {
	for _, x := range []struct {
		nodes []int64
		want  int64
	}{
		{nil, 0}, {[]int64{}, 0}, {[]int64{0}, 1}, {[]int64{1}, 2}, {[]int64{31}, 1 << 31},
		{[]int64{2, 0}, 5}, {[]int64{0, 2}, 5}, {[]int64{31, 0}, 1<<31 + 1}, {[]int64{0, 31}, 1<<31 + 1}, {[]int64{7, 30, 15}, 1<<30 + 1<<15 + 1<<7},
		{rising(32), allMembers}, {falling(32), allMembers}, {rising(31), 1<<31 - 1}, {rising(32)[1:], allMembers - 1}, {falling(32)[1:], 1<<31 - 1},
	} {
		got, code := impl.VectorOf(x.nodes)
		expectNumber(t, "VectorOf "+listText(x.nodes), got, code, x.want, impl.ErrNone)
	}
	for seed := range uint64(300) {
		nodes := shuffled(rising(32), seed+61)[:seed%33]
		got, code := impl.VectorOf(nodes)
		expectNumber(t, "VectorOf "+listText(nodes), got, code, vectorByReference(nodes), impl.ErrNone)
	}
}

func TestVectorOfErrors(t *testing.T) {
	lists := wrongLists(rising, notNodes())
	// A node that occurs twice stands at all pairs of places, in rising, falling and mixed order.
	for _, size := range []int{2, 3, 8, 32} {
		for _, nodes := range [][]int64{rising(size), falling(size), shuffled(rising(32), 62)[:size]} {
			for i := range nodes {
				for k := range nodes {
					if i != k {
						lists = append(lists, with(nodes, i, nodes[k]))
					}
				}
			}
		}
	}
	for node := range int64(32) {
		lists = append(lists, []int64{node, node}, joined(rising(32), []int64{node}), joined([]int64{node}, falling(32)))
	}
	lists = append(lists, joined(rising(32), []int64{32}), rising(33), rising(64), repeated(0, 33), repeated(31, 10000), []int64{0, 0, -1}, []int64{32, 0, 0})
	for _, nodes := range lists {
		got, code := impl.VectorOf(nodes)
		expectNumber(t, "VectorOf "+shortened(nodes), got, code, 0, impl.ErrRange)
	}
}

// agreedByReference counts the members of each node one after the other. It does not use the program.
func agreedByReference(list []int64) int64 {
	var nodes []int64
	for node := range int64(32) {
		votes := 0
		for _, members := range list {
			if slices.Contains(membersByReference(members), node) {
				votes++
			} else {
				votes--
			}
		}
		if votes > 0 {
			nodes = append(nodes, node)
		}
	}
	return vectorByReference(nodes)
}

func TestAgreedMembers(t *testing.T) {
	for _, x := range []struct {
		list []int64
		want int64
	}{
		{[]int64{5, 4, 6}, 4}, {[]int64{5}, 5}, {[]int64{0}, 0}, {[]int64{1}, 1}, {[]int64{allMembers}, allMembers},
		{[]int64{5, 5}, 5}, {[]int64{5, 4}, 4}, {[]int64{1, 2}, 0}, {[]int64{0, allMembers}, 0}, {[]int64{allMembers, 0}, 0},
		{[]int64{0, allMembers, allMembers}, allMembers}, {[]int64{allMembers, 0, 0}, 0}, {[]int64{0, 0, allMembers, allMembers}, 0},
		{[]int64{1, 2, 4}, 0}, {[]int64{3, 5, 6}, 7}, {[]int64{3, 5, 6, 0}, 0}, {[]int64{3, 5, 6, 1}, 1}, {[]int64{7, 3, 1, 0}, 1}, {[]int64{7, 7, 7, 3, 1, 0}, 3},
		{[]int64{1 << 31, 1<<31 + 1, 1}, 1<<31 + 1},
		{repeated(allMembers, 32), allMembers}, {repeated(0, 32), 0}, {repeated(1<<31, 32), 1 << 31},
		{joined(repeated(5, 16), repeated(2, 16)), 0}, {joined(repeated(5, 17), repeated(2, 15)), 5}, {joined(repeated(5, 15), repeated(2, 17)), 2},
	} {
		got, code := impl.AgreedMembers(x.list)
		expectNumber(t, "AgreedMembers "+listText(x.list), got, code, x.want, impl.ErrNone)
	}
}

// A node is a member in each number of vectors of each list, beside another one that is a member in all the other vectors.
func TestAgreedMembersAtHalf(t *testing.T) {
	for size := 1; size <= 32; size++ {
		for count := range size + 1 {
			for _, node := range []int64{0, 1, 15, 30, 31} {
				other := int64(31) - node
				list := shuffled(joined(repeated(1<<node, count), repeated(1<<other, size-count)), uint64(size*64+count))
				want := int64(0)
				if count > size-count {
					want = 1 << node
				} else if count < size-count {
					want = 1 << other
				}
				got, code := impl.AgreedMembers(list)
				expectNumber(t, fmt.Sprint("AgreedMembers ", list), got, code, want, impl.ErrNone)
			}
		}
	}
}

func TestAgreedMembersOfManyLists(t *testing.T) {
	for seed := range uint64(500) {
		size := int(seed%32) + 1
		list := mixedVectors(size, seed+63)
		if seed%3 == 0 {
			// Few vectors in a list make counts that are near half of it.
			for i, choice := range mixed(size, 3, seed+64) {
				list[i] = []int64{list[0], allMembers - list[0], 0xFFFF}[choice]
			}
		}
		got, code := impl.AgreedMembers(list)
		expectNumber(t, fmt.Sprint("AgreedMembers ", list), got, code, agreedByReference(list), impl.ErrNone)
	}
	// All lists of at most three vectors of three nodes.
	for number := range int64(512) {
		list := []int64{number % 8, number / 8 % 8, number / 64}
		for size := 1; size <= 3; size++ {
			got, code := impl.AgreedMembers(list[:size])
			expectNumber(t, fmt.Sprint("AgreedMembers ", list[:size]), got, code, agreedByReference(list[:size]), impl.ErrNone)
		}
	}
}

func TestAgreedMembersErrors(t *testing.T) {
	lists := wrongLists(func(size int) []int64 { return repeated(5, size) }, notVectors())
	lists = append(lists, wrongLists(func(size int) []int64 { return mixedVectors(size, 65) }, []int64{-1, 1 << 32})...)
	lists = append(lists, nil, []int64{}, repeated(5, 33), repeated(0, 33), repeated(allMembers, 33), mixedVectors(33, 66), repeated(1, 34), repeated(1, 64), repeated(1, 10000),
		repeated(-1, 33), with(repeated(5, 33), 32, -1), with(repeated(5, 33), 0, 1<<32))
	for _, list := range lists {
		got, code := impl.AgreedMembers(list)
		expectNumber(t, "AgreedMembers "+shortened(list), got, code, 0, impl.ErrRange)
	}
}

// cliqueByReference groups the indices by their vectors. It does not use the program.
func cliqueByReference(list []int64, node int64) []int64 {
	groups := map[string][]int64{}
	for i, members := range list {
		text := textOfNumber(members, 32)
		groups[text] = append(groups[text], int64(i))
	}
	return groups[textOfNumber(list[node], 32)]
}

func TestCliqueOf(t *testing.T) {
	for _, x := range []struct {
		list []int64
		node int64
		want []int64
	}{
		{[]int64{5, 4, 5}, 0, []int64{0, 2}}, {[]int64{5, 4, 5}, 1, []int64{1}}, {[]int64{5, 4, 5}, 2, []int64{0, 2}},
		{[]int64{0}, 0, []int64{0}}, {[]int64{1}, 0, []int64{0}}, {[]int64{allMembers}, 0, []int64{0}}, {[]int64{0, 0}, 1, []int64{0, 1}}, {[]int64{0, 1}, 1, []int64{1}},
		{[]int64{1, 2, 3, 2, 1}, 4, []int64{0, 4}}, {[]int64{1, 2, 3, 2, 1}, 3, []int64{1, 3}}, {[]int64{1, 2, 3, 2, 1}, 2, []int64{2}},
		{[]int64{allMembers, 1<<31 - 1, allMembers, 1 << 31}, 0, []int64{0, 2}}, {[]int64{allMembers, 1<<31 - 1, allMembers, 1 << 31}, 3, []int64{3}},
		{repeated(5, 32), 0, rising(32)}, {repeated(5, 32), 31, rising(32)}, {repeated(allMembers, 31), 30, rising(31)}, {repeated(0, 32), 16, rising(32)},
		{rising(32), 31, []int64{31}}, {rising(32), 0, []int64{0}}, {with(repeated(5, 32), 31, 4), 31, []int64{31}}, {with(repeated(5, 32), 31, 4), 30, rising(31)},
	} {
		got, code := impl.CliqueOf(x.list, x.node)
		expectList(t, fmt.Sprint("CliqueOf ", x.list, x.node), got, code, x.want, impl.ErrNone)
	}
	for seed := range uint64(200) {
		size := int(seed%32) + 1
		few := mixedVectors(int(seed%5)+1, seed+67)
		list := make([]int64, size)
		for i, choice := range mixed(size, int64(len(few)), seed+68) {
			list[i] = few[choice]
		}
		for node := range int64(size) {
			got, code := impl.CliqueOf(list, node)
			expectList(t, fmt.Sprint("CliqueOf ", list, node), got, code, cliqueByReference(list, node), impl.ErrNone)
		}
	}
}

func TestCliqueOfErrors(t *testing.T) {
	expectError := func(list []int64, node int64) {
		got, code := impl.CliqueOf(list, node)
		expectList(t, "CliqueOf "+shortened(list)+" "+strconv.FormatInt(node, 10), got, code, nil, impl.ErrRange)
	}
	for _, size := range []int{0, 1, 2, 3, 31, 32} {
		wrong := []int64{-1, -2, int64(size), int64(size) + 1, int64(size) - 1<<32, 1 << 32, 1<<32 + 1, least, least + 1, greatest}
		for _, node := range wrong {
			expectError(repeated(5, size), node)
			expectError(rising(size), node)
			// The list has spare capacity with vectors in it.
			expectError(repeated(5, 40)[:size], node)
		}
	}
	expectError(nil, 0)
	expectError([]int64{}, 0)
	for _, list := range wrongLists(func(size int) []int64 { return repeated(5, size) }, notVectors()) {
		for _, node := range []int64{0, int64(len(list)) / 2, int64(len(list)) - 1, int64(len(list)), -1} {
			expectError(list, node)
		}
	}
	for _, list := range [][]int64{repeated(5, 33), repeated(0, 33), rising(33), repeated(allMembers, 34), repeated(1, 10000), with(repeated(5, 33), 32, -1)} {
		for _, node := range []int64{0, 1, 31, 32, 33, -1} {
			expectError(list, node)
		}
	}
}

func TestIsMajority(t *testing.T) {
	for _, x := range []struct {
		accepted, rejected int64
		want               bool
	}{
		{2, 1, true}, {1, 1, false}, {1, 2, false}, {0, 0, false}, {1, 0, true}, {0, 1, false},
		{256, 0, true}, {256, 255, true}, {256, 256, false}, {255, 256, false}, {255, 254, true}, {0, 256, false},
		{257, 0, false}, {257, 256, false}, {257, 257, false}, {258, 257, false}, {256, 257, false}, {0, 257, false},
		{0, -1, false}, {1, -1, false}, {256, -1, false}, {-1, -2, false}, {-1, -1, false}, {-1, 0, false}, {257, -1, false}, {-1, 257, false},
		{greatest, least, false}, {least, greatest, false}, {greatest, 0, false}, {1, least, false}, {greatest, greatest - 1, false}, {least + 1, least, false}, {1 << 32, 0, false}, {1<<32 + 2, 1, false}, {2, 1 - 1<<32, false},
	} {
		if got := impl.IsMajority(x.accepted, x.rejected); got != x.want {
			t.Errorf("IsMajority %d %d is %v", x.accepted, x.rejected, got)
		}
	}
	numbers := rising(257)
	for accepted := int64(-3); accepted <= 260; accepted++ {
		for rejected := int64(-3); rejected <= 260; rejected++ {
			want := slices.Contains(numbers, accepted) && slices.Contains(numbers, rejected) && accepted-rejected >= 1
			if got := impl.IsMajority(accepted, rejected); got != want {
				t.Errorf("IsMajority %d %d is %v", accepted, rejected, got)
			}
		}
	}
}

func TestAcknowledgeBy(t *testing.T) {
	for _, x := range []struct{ own, node, first, second, want int64 }{
		{7, 1, 7, 0, 1}, {7, 1, 7, 7, 1}, {7, 1, 7, 5, 1}, {7, 1, 7, allMembers, 1},
		{7, 1, 5, 5, 0}, {7, 1, 5, 7, 1},
		{7, 1, 5, 4, -1}, {7, 1, 5, 1, -1}, {7, 1, 5, 0, -1}, {7, 1, 5, 6, -1},
		{7, 1, 4, 4, -1}, {7, 1, 4, 7, -1}, {7, 1, 4, 5, -1}, {7, 1, 0, 7, -1}, {7, 1, 6, 7, -1}, {7, 1, 3, 3, -1}, {7, 1, 15, 7, -1}, {7, 1, 13, 13, -1}, {7, 1, 2, 2, -1},
		{1, 0, 1, 0, 1}, {1, 0, 0, 0, 0}, {1, 0, 0, 1, 1}, {1, 0, 0, 2, -1}, {1, 0, 2, 1, -1}, {1, 0, 2, 0, -1},
		{allMembers, 31, allMembers, 0, 1}, {allMembers, 31, 1<<31 - 1, 1<<31 - 1, 0}, {allMembers, 31, 1<<31 - 1, allMembers, 1}, {allMembers, 31, 1<<31 - 1, 0, -1}, {allMembers, 31, 0, 0, -1},
		{allMembers, 0, allMembers, allMembers - 1, 1}, {allMembers, 0, allMembers - 1, allMembers - 1, 0}, {allMembers, 0, allMembers - 1, allMembers, 1}, {allMembers, 0, 1<<31 - 1, allMembers, -1},
		{1 << 31, 31, 0, 0, 0}, {1 << 31, 31, 0, 1 << 31, 1}, {1 << 31, 31, 1 << 31, 1, 1}, {1 << 31, 31, 0, 1, -1},
	} {
		got, code := impl.AcknowledgeBy(x.own, x.node, x.first, x.second)
		expectNumber(t, fmt.Sprint("AcknowledgeBy ", x.own, x.node, x.first, x.second), got, code, x.want, impl.ErrNone)
	}
}

// acknowledgedByReference reads the four cases from the names of the two vectors. It does not use the program.
func acknowledgedByReference(own int64, node int64, first int64, second int64) int64 {
	name := func(members int64) string {
		switch members {
		case own:
			return "own"
		case without(own, node):
			return "without"
		}
		return "other"
	}
	answers := map[string]int64{"own own": 1, "own without": 1, "own other": 1, "without without": 0, "without own": 1}
	if answer, ok := answers[name(first)+" "+name(second)]; ok {
		return answer
	}
	return -1
}

// checkAcknowledged compares AcknowledgeBy with the reference, and returns the answer.
func checkAcknowledged(t *testing.T, own int64, node int64, first int64, second int64) int64 {
	t.Helper()
	call := fmt.Sprint("AcknowledgeBy ", own, " ", node, " ", first, " ", second)
	got, code := impl.AcknowledgeBy(own, node, first, second)
	if !slices.Contains(membersByReference(own), node) {
		expectNumber(t, call, got, code, 0, impl.ErrState)
		return got
	}
	expectNumber(t, call, got, code, acknowledgedByReference(own, node, first, second), impl.ErrNone)
	return got
}

func TestAcknowledgeByOfAllSmallVectors(t *testing.T) {
	for own := range int64(16) {
		for node := range int64(5) {
			for first := range int64(16) {
				for second := range int64(16) {
					checkAcknowledged(t, own, node, first, second)
				}
			}
		}
	}
}

func TestAcknowledgeByOfManyVectors(t *testing.T) {
	answers := map[int64]int{}
	for i, own := range vectors() {
		for node := range int64(32) {
			other := vectors()[(i*7+int(node))%len(vectors())]
			near := vectorByReference(append(membersByReference(without(own, node)), (node+1)%32))
			choices := []int64{own, without(own, node), other, near, without(own, (node+31)%32), 1 << node, allMembers - own}
			for _, first := range choices {
				for _, second := range choices {
					answers[checkAcknowledged(t, own, node, first, second)]++
				}
			}
		}
	}
	for _, answer := range []int64{-1, 0, 1} {
		if answers[answer] < 1000 {
			t.Errorf("%d answers are %d", answers[answer], answer)
		}
	}
}

func TestAcknowledgeByErrors(t *testing.T) {
	expectError := func(own int64, node int64, first int64, second int64, want int64) {
		t.Helper()
		got, code := impl.AcknowledgeBy(own, node, first, second)
		expectNumber(t, fmt.Sprint("AcknowledgeBy ", own, node, first, second), got, code, 0, want)
	}
	for _, wrong := range notVectors() {
		for _, right := range []int64{0, 1, 5, 7, allMembers} {
			for _, node := range []int64{0, 1, 2, 31} {
				expectError(wrong, node, right, right, impl.ErrRange)
				expectError(wrong, node, wrong, wrong, impl.ErrRange)
				// Some of these vectors do not have the node, which is looked at later.
				expectError(right, node, wrong, right, impl.ErrRange)
				expectError(right, node, right, wrong, impl.ErrRange)
				expectError(right, node, 0, wrong, impl.ErrRange)
				expectError(right, node, wrong, wrong, impl.ErrRange)
			}
		}
	}
	for _, node := range notNodes() {
		for _, members := range joined(vectors(), notVectors()) {
			expectError(members, node, members, members, impl.ErrRange)
			expectError(allMembers, node, members, 0, impl.ErrRange)
			expectError(0, node, 0, members, impl.ErrRange)
		}
	}
	for _, own := range vectors() {
		for node := range int64(32) {
			missing := without(own, node)
			expectError(missing, node, missing, missing, impl.ErrState)
			expectError(missing, node, 0, 0, impl.ErrState)
			expectError(missing, node, own, allMembers, impl.ErrState)
		}
	}
}

// Promise 5: a vector that stands in more than half of the places of a list is the agreed one. All choices of places of
// short lists are tried.
func TestTheVectorOfMoreThanHalfIsAgreedAtAllPlaces(t *testing.T) {
	for _, members := range []int64{0, 1, 5, 1 << 31, allMembers - 1, allMembers, 0x55555555} {
		for size := 1; size <= 8; size++ {
			for places := range int64(1) << size {
				chosen := bitsOfText(textOfNumber(places, size))
				checkAgreed(t, members, chosen, repeated(allMembers-members, size))
				checkAgreed(t, members, chosen, mixedVectors(size, uint64(places)+69))
			}
		}
	}
}

// checkAgreed puts a vector at the chosen places of a list of others, if they are more than half of it, and fails the
// test if it is not the agreed one.
func checkAgreed(t *testing.T, members int64, chosen []int64, others []int64) {
	t.Helper()
	list, count := slices.Clone(others), 0
	for i, is := range chosen {
		if is == 1 {
			list[i] = members
			count++
		}
	}
	if count <= len(list)-count {
		return
	}
	got, code := impl.AgreedMembers(list)
	expectNumber(t, fmt.Sprint("AgreedMembers ", list), got, code, members, impl.ErrNone)
}

// Promise 5: the same for longer lists and more vectors, with all numbers of places above half.
func TestTheVectorOfMoreThanHalfIsAgreed(t *testing.T) {
	for i, members := range vectors() {
		for size := 1; size <= 32; size++ {
			for count := size/2 + 1; count <= size; count++ {
				seed := uint64(i*4096 + size*64 + count)
				chosen := shuffled(joined(repeated(1, count), repeated(0, size-count)), seed)
				others := [][]int64{repeated(allMembers-members, size), mixedVectors(size, seed), repeated(0, size), repeated(allMembers, size)}
				checkAgreed(t, members, chosen, others[seed%4])
			}
		}
	}
}

// Promise 5 and the guarantee of chapter 5: a vector is recovered from its members in any order.
func TestVectorsAreRecoveredFromTheirMembers(t *testing.T) {
	for i, members := range append(vectors(), mixedVectors(1000, 70)...) {
		nodes, code := impl.MembersOf(members)
		if code != impl.ErrNone {
			t.Fatalf("MembersOf %d: code %d", members, code)
		}
		orders := [][]int64{nodes, slices.Clone(nodes), shuffled(nodes, uint64(i)+71), shuffled(nodes, uint64(i)+72)}
		slices.Reverse(orders[1])
		for _, order := range orders {
			got, code := impl.VectorOf(order)
			expectNumber(t, "VectorOf "+listText(order), got, code, members, impl.ErrNone)
		}
		for node := range int64(32) {
			if impl.HasMember(members, node) != slices.Contains(nodes, node) {
				t.Errorf("HasMember %d %d differs from MembersOf", members, node)
			}
		}
	}
}

// The guarantee of chapter 5: the members of the vector of some nodes are these nodes, strictly increasing.
func TestNodesAreRecoveredFromTheirVector(t *testing.T) {
	for seed := range uint64(2000) {
		nodes := shuffled(rising(32), seed+73)[:seed%33]
		members, code := impl.VectorOf(nodes)
		if code != impl.ErrNone {
			t.Fatalf("VectorOf %s: code %d", listText(nodes), code)
		}
		got, code := impl.MembersOf(members)
		expectList(t, fmt.Sprint("MembersOf ", members), got, code, slices.Sorted(slices.Values(nodes)), impl.ErrNone)
	}
}

// Setting the members of a vector one after the other makes it, and removing them empties it.
func TestVectorsAreMadeMemberByMember(t *testing.T) {
	for i, members := range vectors() {
		made := int64(0)
		for _, node := range shuffled(membersByReference(members), uint64(i)+74) {
			made, _ = impl.SetMember(made, node, true)
		}
		expectNumber(t, "the vector that is made", made, 0, members, 0)
		for _, node := range shuffled(membersByReference(members), uint64(i)+75) {
			made, _ = impl.SetMember(made, node, false)
		}
		expectNumber(t, "the vector that is emptied", made, 0, 0, 0)
	}
}

// majorities returns the vectors of all cliques of a list that have a majority.
func majorities(t *testing.T, list []int64) []int64 {
	t.Helper()
	var found []int64
	for node, members := range list {
		clique, code := impl.CliqueOf(list, int64(node))
		if code != impl.ErrNone || !slices.Contains(clique, int64(node)) {
			t.Fatalf("CliqueOf %s %d: %s, code %d", listText(list), node, listText(clique), code)
		}
		size := int64(len(clique))
		if impl.IsMajority(size, int64(len(list))-size) && !slices.Contains(found, members) {
			found = append(found, members)
		}
	}
	return found
}

// checkMajorities fails the test if a list has more than one clique with a majority, or if it has not one just where a
// vector stands in more than half of its places. It returns how many it has.
func checkMajorities(t *testing.T, list []int64) int {
	t.Helper()
	var want []int64
	for _, members := range list {
		places := slices.DeleteFunc(slices.Clone(list), func(other int64) bool { return other != members })
		if 2*len(places) > len(list) {
			want = []int64{members}
		}
	}
	found := majorities(t, list)
	if len(found) > 1 || !slices.Equal(found, want) {
		t.Errorf("the cliques with a majority of %s are those of %s, want %s", listText(list), listText(found), listText(want))
	}
	for _, members := range found {
		got, code := impl.AgreedMembers(list)
		expectNumber(t, fmt.Sprint("AgreedMembers ", list), got, code, members, impl.ErrNone)
	}
	return len(found)
}

// The guarantee of chapter 5: no more than one clique has a majority.
func TestNoMoreThanOneCliqueHasAMajority(t *testing.T) {
	numbers := map[int]int{}
	for seed := range uint64(2000) {
		size := int(seed%32) + 1
		few := joined(mixedVectors(1, seed+76), []int64{int64(seed % 2), allMembers, 5})[:seed%4+1]
		list := make([]int64, size)
		for i, choice := range mixed(size, int64(len(few)), seed+77) {
			list[i] = few[choice]
		}
		numbers[checkMajorities(t, list)]++
	}
	for size := 1; size <= 32; size++ {
		for count := range size + 1 {
			list := shuffled(joined(repeated(5, count), repeated(allMembers-5, size-count)), uint64(size*64+count)+78)
			numbers[checkMajorities(t, list)]++
		}
	}
	// All lists of four vectors of two nodes.
	for number := range int64(256) {
		numbers[checkMajorities(t, []int64{number % 4, number / 4 % 4, number / 16 % 4, number / 64})]++
	}
	if numbers[0] < 200 || numbers[1] < 200 {
		t.Errorf("%d lists have no clique with a majority, and %d have one", numbers[0], numbers[1])
	}
}

func TestMembershipLeavesMemoryAlone(t *testing.T) {
	lists := append(memoryLists(), nil, []int64{0}, []int64{5, 4, 5}, rising(32), falling(32), falling(31), rising(33), repeated(5, 32), repeated(allMembers, 32), mixedVectors(32, 79), mixedVectors(33, 80), []int64{2, 0, 2}, []int64{0, -1}, with(repeated(5, 32), 31, 1<<32))
	for _, list := range lists {
		checkMemory(t, "VectorOf "+shortened(list), func(l [][]int64) []int64 {
			members, code := impl.VectorOf(l[0])
			return []int64{members, code}
		}, list)
		checkMemory(t, "AgreedMembers "+shortened(list), func(l [][]int64) []int64 {
			members, code := impl.AgreedMembers(l[0])
			return []int64{members, code}
		}, list)
		for _, node := range []int64{0, 1, 31, int64(len(list)) - 1, -1} {
			checkMemory(t, fmt.Sprint("CliqueOf ", shortened(list), node), func(l [][]int64) []int64 { return first(impl.CliqueOf(l[0], node)) }, list)
		}
	}
	for _, members := range joined(vectors(), notVectors()) {
		checkMemory(t, fmt.Sprint("MembersOf ", members), func([][]int64) []int64 { return first(impl.MembersOf(members)) })
	}
}

// What is written into the members of a vector changes no later result.
func TestMembersOfKeepsNothing(t *testing.T) {
	for _, members := range vectors() {
		nodes, _ := impl.MembersOf(members)
		fill(nodes[:cap(nodes)], mark)
		again, code := impl.MembersOf(members)
		expectList(t, fmt.Sprint("MembersOf again ", members), again, code, membersByReference(members), impl.ErrNone)
	}
}
