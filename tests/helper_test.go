package tests

import (
	"math"
	"slices"
	"strconv"
	"strings"
	"testing"
)

const (
	least    = math.MinInt64
	greatest = math.MaxInt64
)

// expectList fails the test if a call did not return this list and this code.
func expectList(t *testing.T, call string, got []int64, code int64, want []int64, wantCode int64) {
	t.Helper()
	if code != wantCode {
		t.Errorf("%s: code %d, want %d", call, code, wantCode)
	}
	if !slices.Equal(got, want) {
		t.Errorf("%s: %v, want %v", call, shortened(got), shortened(want))
	}
}

// expectNumber fails the test if a call did not return this number and this code.
func expectNumber(t *testing.T, call string, got int64, code int64, want int64, wantCode int64) {
	t.Helper()
	if code != wantCode || got != want {
		t.Errorf("%s: %d, code %d, want %d, code %d", call, got, code, want, wantCode)
	}
}

// shortened keeps a failure readable when a list has thousands of elements.
func shortened(list []int64) string {
	const shown = 48
	if len(list) <= shown {
		return listText(list)
	}
	return listText(list[:shown]) + " and so on, " + strconv.Itoa(len(list)) + " in all"
}

func listText(list []int64) string {
	texts := make([]string, len(list))
	for i, element := range list {
		texts[i] = strconv.FormatInt(element, 10)
	}
	return "[" + strings.Join(texts, " ") + "]"
}

// repeated returns a list of one element, size times.
func repeated(element int64, size int) []int64 {
	list := make([]int64, size)
	for i := range list {
		list[i] = element
	}
	return list
}

// with returns a copy of a list with another element at an index.
func with(list []int64, index int, element int64) []int64 {
	other := slices.Clone(list)
	other[index] = element
	return other
}

// joined returns the elements of all lists in order.
func joined(lists ...[]int64) []int64 { return slices.Concat(lists...) }

// mixed returns size numbers below limit that follow no simple pattern and are the same in each run.
func mixed(size int, limit int64, seed uint64) []int64 {
	list := make([]int64, size)
	x := seed
	for i := range list {
		x = x*6364136223846793005 + 1442695040888963407
		list[i] = int64(x>>33) % limit
	}
	return list
}

// bitsOfText returns the bits that a text of the characters 0 and 1 shows. It does not use the program.
func bitsOfText(text string) []int64 {
	bits := make([]int64, len(text))
	for i, c := range text {
		bits[i] = int64(c - '0')
	}
	return bits
}

// textOfNumber returns a number in base two with leading zeros, for widths of at least 1. It does not use the program.
func textOfNumber(value int64, width int) string {
	text := strconv.FormatInt(value, 2)
	return strings.Repeat("0", max(width-len(text), 0)) + text
}

// shortBitLists returns all bit lists of at most size bits.
func shortBitLists(size int) [][]int64 {
	lists := [][]int64{nil}
	for width := 1; width <= size; width++ {
		for value := int64(0); value < 1<<width; value++ {
			lists = append(lists, bitsOfText(textOfNumber(value, width)))
		}
	}
	return lists
}

// mark is no element of any list of the tests, so memory that holds it has not been written by a call.
const mark = -7777

// guarded is a copy of a list that stands between marks, as a part of a longer array.
type guarded struct {
	array []int64
	list  []int64
	want  []int64
}

func guard(list []int64) guarded {
	array := joined([]int64{mark}, list, repeated(mark, 64))
	return guarded{array, array[1 : 1+len(list)], slices.Clone(array)}
}

func (g guarded) isUntouched() bool { return slices.Equal(g.array, g.want) }

func guardAll(lists [][]int64) ([]guarded, [][]int64) {
	guards := make([]guarded, len(lists))
	arguments := make([][]int64, len(lists))
	for i, list := range lists {
		guards[i] = guard(list)
		arguments[i] = guards[i].list
	}
	return guards, arguments
}

// checkMemory fails the test if a call changes its arguments or the memory around them, or if its
// result shares memory with an argument or with the result of another call.
func checkMemory(t *testing.T, name string, call func(lists [][]int64) []int64, lists ...[]int64) {
	t.Helper()
	guards, arguments := guardAll(lists)
	first, second := call(arguments), call(arguments)
	want := slices.Clone(first)
	expectUntouched(t, name+": the call", guards)
	if !slices.Equal(first, second) {
		t.Errorf("%s: a second call returned another result", name)
	}
	fill(second[:cap(second)], mark)
	if !slices.Equal(first, want) {
		t.Errorf("%s: two results share memory", name)
	}
	fill(first[:cap(first)], mark-1)
	expectUntouched(t, name+": writing to the result", guards)
	third := call(arguments)
	for _, g := range guards {
		fill(g.array, mark)
	}
	if !slices.Equal(third, want) {
		t.Errorf("%s: the result shares memory with an argument or an earlier result", name)
	}
}

func expectUntouched(t *testing.T, what string, guards []guarded) {
	t.Helper()
	for i, g := range guards {
		if !g.isUntouched() {
			t.Errorf("%s changed the list %d or the memory around it", what, i)
		}
	}
}

func fill(list []int64, element int64) {
	for i := range list {
		list[i] = element
	}
}
