package tests

import (
	"fmt"
	"regexp"
	"runtime"
	"slices"
	"strings"
	"sync"
	"testing"
	"time"

	"loop.example/g00833/impl"
)

// linePattern has the idle cells, the preamble and the bytes with their starts as its groups.
var linePattern = regexp.MustCompile(`\A(1*)(0{3,15})1((?:10[01]{8})*)011*\z`)

// lineShape is what stands in a line.
type lineShape struct {
	idle, preamble int64
	data           []int64
}

// holders returns the indices of the cells that hold bits of bytes.
func (x lineShape) holders() []int64 {
	var indices []int64
	for k := range int64(len(x.data)) {
		for bit := range int64(8) {
			indices = append(indices, x.idle+x.preamble+1+10*k+2+bit)
		}
	}
	return indices
}

// shapeByReference returns what stands in a line, and whether the cells are one. It does not use the program.
func shapeByReference(text string) (lineShape, bool) {
	groups := linePattern.FindStringSubmatch(text)
	if groups == nil {
		return lineShape{}, false
	}
	x := lineShape{idle: int64(len(groups[1])), preamble: int64(len(groups[2]))}
	for bytes := groups[3]; bytes != ""; bytes = bytes[10:] {
		x.data = append(x.data, numberOfBits(bitsOfText(bytes[2:10])))
	}
	return x, true
}

// textOfCells returns cells as the characters 0 and 1. It does not use the program.
func textOfCells(cells []int64) string {
	text := make([]byte, len(cells))
	for i, cell := range cells {
		text[i] = '0' + byte(cell)
	}
	return string(text)
}

// lineText returns a line with so many idle cells before and behind its transmission as a text.
func (x lineShape) lineText(after int) string {
	return strings.Repeat("1", int(x.idle)) + lineByReference(x.data, x.preamble) + strings.Repeat("1", after)
}

// preambles are all preambles, and notPreambles some numbers that are none.
func preambles() []int64 { return rising(16)[3:] }

func notPreambles() []int64 {
	return []int64{-1, 0, 1, 2, 16, 17, 255, 256, -3, -8, -15, 1<<32 + 8, least, least + 8, greatest, greatest - 8}
}

// mostBytes returns the greatest number of bytes that fit into MaxBits cells with a preamble.
func mostBytes(preamble int64) int { return int(8192-3-preamble) / 10 }

// expectLine fails the test if cells are not a line with this shape. It is called so often that the cells are named only in a
// failure, as are those below.
func expectLine(t *testing.T, cells []int64, want lineShape) {
	t.Helper()
	if data, code := impl.BytesOfLine(cells); code != impl.ErrNone || !slices.Equal(data, want.data) {
		t.Errorf("BytesOfLine %s: %s, code %d, want %s", textOfCells(cells), shortened(data), code, shortened(want.data))
	}
	idle, preamble, n, code := impl.ShapeOfLine(cells)
	if code != impl.ErrNone || idle != want.idle || preamble != want.preamble || n != int64(len(want.data)) {
		t.Errorf("ShapeOfLine %s: %d, %d, %d, code %d, want %d, %d, %d", textOfCells(cells), idle, preamble, n, code, want.idle, want.preamble, len(want.data))
	}
	if !impl.IsLine(cells) {
		t.Errorf("IsLine %s is false", textOfCells(cells))
	}
	if indices, code := impl.DataCells(cells); code != impl.ErrNone || !slices.Equal(indices, want.holders()) {
		t.Errorf("DataCells %s: %s, code %d, want %s", textOfCells(cells), shortened(indices), code, shortened(want.holders()))
	}
}

// expectNoLine fails the test if a function of a line does not return an error and nothing else.
func expectNoLine(t *testing.T, cells []int64, wantCode int64) {
	t.Helper()
	if data, code := impl.BytesOfLine(cells); code != wantCode || len(data) > 0 {
		t.Errorf("BytesOfLine %s: %s, code %d, want code %d", shortened(cells), shortened(data), code, wantCode)
	}
	if idle, preamble, n, code := impl.ShapeOfLine(cells); code != wantCode || idle != 0 || preamble != 0 || n != 0 {
		t.Errorf("ShapeOfLine %s: %d, %d, %d, code %d, want code %d", shortened(cells), idle, preamble, n, code, wantCode)
	}
	if impl.IsLine(cells) {
		t.Errorf("IsLine %s is true", shortened(cells))
	}
	if indices, code := impl.DataCells(cells); code != wantCode || len(indices) > 0 {
		t.Errorf("DataCells %s: %s, code %d, want code %d", shortened(cells), shortened(indices), code, wantCode)
	}
}

// checkCells compares the functions of a line with the reference, and returns whether the cells are one.
func checkCells(t *testing.T, cells []int64) bool {
	t.Helper()
	x, is := shapeByReference(textOfCells(cells))
	if is {
		expectLine(t, cells, x)
	} else {
		expectNoLine(t, cells, impl.ErrSyntax)
	}
	return is
}

func expectCells(t *testing.T, data []int64, preamble int64, want []int64, wantCode int64) {
	t.Helper()
	if got, code := impl.CellsOf(data, preamble); code != wantCode || !slices.Equal(got, want) {
		t.Errorf("CellsOf %s %d: %s, code %d, want %s, code %d", shortened(data), preamble, shortened(got), code, shortened(want), wantCode)
	}
}

func expectTransmissionSize(t *testing.T, n int64, preamble int64, want int64, wantCode int64) {
	t.Helper()
	if got, code := impl.TransmissionSize(n, preamble); code != wantCode || got != want {
		t.Errorf("TransmissionSize %d %d: %d, code %d, want %d, code %d", n, preamble, got, code, want, wantCode)
	}
}

func expectPadded(t *testing.T, cells []int64, before int64, after int64, want []int64, wantCode int64) {
	t.Helper()
	if got, code := impl.PadLine(cells, before, after); code != wantCode || !slices.Equal(got, want) {
		t.Errorf("PadLine %s %d %d: %s, code %d, want %s, code %d", shortened(cells), before, after, shortened(got), code, shortened(want), wantCode)
	}
}

// checkTransmission fails the test if bytes are not recovered from the lines on which they are transmitted, with no and with some
// idle cells around the transmission.
func checkTransmission(t *testing.T, data []int64, preamble int64, pads ...[2]int64) {
	t.Helper()
	text := lineByReference(data, preamble)
	cells, code := impl.CellsOf(data, preamble)
	if code != impl.ErrNone || textOfCells(cells) != text {
		t.Errorf("CellsOf %s %d: %s, code %d, want %s", shortened(data), preamble, textOfCells(cells), code, text)
		return
	}
	expectTransmissionSize(t, int64(len(data)), preamble, int64(len(cells)), impl.ErrNone)
	for _, pad := range append(pads, [2]int64{0, 0}) {
		line, code := impl.PadLine(cells, pad[0], pad[1])
		want := lineShape{pad[0], preamble, data}
		if code != impl.ErrNone || textOfCells(line) != want.lineText(int(pad[1])) {
			t.Errorf("PadLine %s %v: %s, code %d", shortened(cells), pad, textOfCells(line), code)
			continue
		}
		expectLine(t, line, want)
		var bits []int64
		indices, _ := impl.DataCells(line)
		for _, index := range indices {
			bits = append(bits, line[index])
		}
		expectList(t, "the cells at DataCells", bits, 0, bitsOfBytes(data), 0)
	}
}

func TestConstantsOfCells(t *testing.T) {
	expectList(t, "the constants", []int64{impl.LeastPreamble, impl.MaxPreamble, impl.SendPreamble}, 0, []int64{3, 15, 8}, 0)
}

// The cells have been written out by hand.
func TestKnownCells(t *testing.T) {
	for _, x := range []struct {
		data     []int64
		preamble int64
		cells    string
	}{
		{nil, 3, "000101"},
		{[]int64{}, 3, "000101"},
		{nil, 8, "00000000101"},
		{nil, 15, "000000000000000101"},
		{[]int64{0}, 3, "0001100000000001"},
		{[]int64{255}, 3, "0001101111111101"},
		{[]int64{128}, 4, "00001101000000001"},
		{[]int64{1}, 4, "00001100000000101"},
		{[]int64{0x53, 0xA6}, 5, "0000011001010011101010011001"},
		{[]int64{1, 2, 3}, 15, "000000000000000" + "1" + "1000000001" + "1000000010" + "1000000011" + "01"},
	} {
		cells := bitsOfText(x.cells)
		expectCells(t, x.data, x.preamble, cells, impl.ErrNone)
		expectTransmissionSize(t, int64(len(x.data)), x.preamble, int64(len(cells)), impl.ErrNone)
		expectLine(t, cells, lineShape{0, x.preamble, x.data})
		expectLine(t, joined([]int64{1, 1}, cells, []int64{1}), lineShape{2, x.preamble, x.data})
		if text := lineByReference(x.data, x.preamble); text != x.cells {
			t.Errorf("the reference has %s for %v, want %s", text, x.data, x.cells)
		}
	}
	line := bitsOfText("11" + "0000011001010011101010011001" + "1")
	indices, code := impl.DataCells(line)
	expectList(t, "DataCells", indices, code, []int64{10, 11, 12, 13, 14, 15, 16, 17, 20, 21, 22, 23, 24, 25, 26, 27}, impl.ErrNone)
	indices, code = impl.DataCells(bitsOfText("1000101"))
	expectList(t, "DataCells without bytes", indices, code, nil, impl.ErrNone)
}

// smallPads are no and some idle cells before and behind a transmission.
func smallPads() [][2]int64 {
	return [][2]int64{{1, 0}, {0, 1}, {1, 1}, {2, 0}, {0, 2}, {7, 10}, {16, 3}, {3, 16}, {100, 41}}
}

// cellData are byte lists that fit with all preambles: none, one byte, all pairs of some bytes, and longer ones.
func cellData() [][]int64 {
	lists := [][]int64{nil, {}}
	for value := range int64(256) {
		lists = append(lists, []int64{value})
	}
	some := []int64{0, 1, 127, 128, 129, 170, 85, 254, 255}
	for _, a := range some {
		for _, b := range some {
			lists = append(lists, []int64{a, b})
		}
	}
	for _, size := range []int{3, 4, 5, 10, 16, 17, 45, 100, 255, 256, 257} {
		lists = append(lists, repeated(0, size), repeated(255, size), repeated(128, size), repeated(1, size), mixed(size, 256, uint64(size)+180), mixed(size, 2, uint64(size)+181))
	}
	return lists
}

// Promise 15: bytes are recovered from the line on which they are transmitted, with all preambles, and with no and some idle cells
// around the transmission.
func TestBytesAreRecoveredFromLines(t *testing.T) {
	for _, data := range cellData() {
		for _, preamble := range preambles() {
			checkTransmission(t, data, preamble, smallPads()...)
		}
	}
}

// Promise 15: lists of each length that fits with some idle cells.
func TestBytesOfEachNumberAreRecovered(t *testing.T) {
	for n := range mostBytes(9) {
		preamble := int64(3 + n%7)
		checkTransmission(t, mixed(n, 256, uint64(n)+182), preamble, [2]int64{int64(n % 5), 0})
	}
}

// Promise 15: the longest lists that fit, with as many idle cells as still fit.
func TestLongestTransmissions(t *testing.T) {
	for i, preamble := range preambles() {
		n := mostBytes(preamble)
		expectNumber(t, "the greatest number of bytes", int64(n), 0, []int64{818, 818, 818, 818, 818, 818, 818, 817, 817, 817, 817, 817, 817}[i], 0)
		rest := int64(8192 - len(lineByReference(repeated(0, n), preamble)))
		for _, data := range [][]int64{repeated(0, n), repeated(255, n), repeated(170, n), mixed(n, 256, uint64(n)+183), mixed(n-1, 256, 184)} {
			checkTransmission(t, data, preamble, [2]int64{rest, 0}, [2]int64{0, rest}, [2]int64{rest / 2, rest - rest/2})
		}
		for _, more := range []int{n + 1, n + 2, 900, 1000, 1023, 1024} {
			expectCells(t, repeated(0, more), preamble, nil, impl.ErrLimit)
			expectCells(t, mixed(more, 256, uint64(more)+185), preamble, nil, impl.ErrLimit)
		}
	}
	// With the preamble 9 the longest transmission has just MaxBits cells.
	cells, code := impl.CellsOf(mixed(818, 256, 186), 9)
	expectNumber(t, "the cells of the longest transmission", int64(len(cells)), code, 8192, impl.ErrNone)
	expectCells(t, mixed(818, 256, 186), 10, nil, impl.ErrLimit)
}

// Only the first error of several is told.
func TestCellsOfErrors(t *testing.T) {
	for _, data := range notBytes() {
		for _, preamble := range append(notPreambles(), 3, 8, 15) {
			expectCells(t, data, preamble, nil, impl.ErrInvalid)
		}
	}
	for _, size := range []int{0, 1, 2, 100, 816, 817, 818, 819, 1023, 1024} {
		for _, preamble := range notPreambles() {
			expectCells(t, mixed(size, 256, 187), preamble, nil, impl.ErrRange)
		}
		for _, wrong := range []int64{-1, 256, least, greatest} {
			for _, preamble := range []int64{3, 15, 2, 16, least, greatest} {
				expectCells(t, joined(mixed(size, 256, 188), []int64{wrong}), preamble, nil, impl.ErrInvalid)
				expectCells(t, joined([]int64{wrong}, mixed(size, 256, 188)), preamble, nil, impl.ErrInvalid)
			}
		}
	}
}

// A transmission may have more cells than a cell list.
func TestTransmissionSize(t *testing.T) {
	for n := range int64(1025) {
		for _, preamble := range preambles() {
			expectTransmissionSize(t, n, preamble, preamble+3+10*n, impl.ErrNone)
		}
		for _, preamble := range notPreambles() {
			expectTransmissionSize(t, n, preamble, 0, impl.ErrRange)
		}
	}
	for _, x := range [][]int64{{0, 3, 6}, {0, 15, 18}, {1, 8, 21}, {818, 9, 8192}, {818, 10, 8193}, {1024, 3, 10246}, {1024, 15, 10258}} {
		expectTransmissionSize(t, x[0], x[1], x[2], impl.ErrNone)
	}
	for _, n := range []int64{-1, -2, -1024, 1025, 1026, 8192, 1 << 32, 1<<32 + 1, -1 << 32, least, least + 1, greatest, greatest - 1} {
		for _, preamble := range append(preambles(), notPreambles()...) {
			expectTransmissionSize(t, n, preamble, 0, impl.ErrRange)
		}
	}
}

func TestPadLine(t *testing.T) {
	for _, x := range []struct {
		cells         string
		before, after int64
		want          string
	}{
		{"", 0, 0, ""}, {"", 1, 0, "1"}, {"", 0, 2, "11"}, {"", 3, 1, "1111"}, {"0", 0, 0, "0"}, {"0", 2, 1, "1101"}, {"1", 1, 3, "11111"},
		{"000101", 0, 0, "000101"}, {"000101", 4, 0, "1111000101"}, {"000101", 0, 4, "0001011111"}, {"1000101", 1, 0, "11000101"}, {"0101100", 1, 1, "101011001"},
	} {
		expectPadded(t, bitsOfText(x.cells), x.before, x.after, bitsOfText(x.want), impl.ErrNone)
	}
	expectPadded(t, nil, 0, 0, nil, impl.ErrNone)
	expectPadded(t, nil, 2, 0, []int64{1, 1}, impl.ErrNone)
	for _, cells := range append(shortBitLists(5), mixed(300, 2, 189)) {
		for before := range int64(4) {
			for after := range int64(4) {
				expectPadded(t, cells, before, after, joined(repeated(1, int(before)), cells, repeated(1, int(after))), impl.ErrNone)
			}
		}
	}
}

// So many cells that MaxBits is just reached and just passed, before, behind, and on both sides.
func TestPadLineToTheLimit(t *testing.T) {
	for _, size := range []int{0, 1, 6, 100, 4096, 8190, 8191, 8192} {
		cells, rest := mixed(size, 2, uint64(size)+190), int64(8192-size)
		for _, before := range []int64{0, min(1, rest), rest / 3, rest / 2, max(rest-1, 0), rest} {
			after := rest - before
			expectPadded(t, cells, before, after, joined(repeated(1, int(before)), cells, repeated(1, int(after))), impl.ErrNone)
			if after < 8192 {
				expectPadded(t, cells, before, after+1, nil, impl.ErrLimit)
			}
			if before < 8192 {
				expectPadded(t, cells, before+1, after, nil, impl.ErrLimit)
			}
			if size < 8192 {
				expectPadded(t, joined(cells, []int64{0}), before, after, nil, impl.ErrLimit)
			}
		}
		expectPadded(t, cells, 8192, 8192, nil, impl.ErrLimit)
	}
	expectPadded(t, nil, 8192, 0, repeated(1, 8192), impl.ErrNone)
	expectPadded(t, nil, 0, 8192, repeated(1, 8192), impl.ErrNone)
}

// Only the first error of several is told.
func TestPadLineErrors(t *testing.T) {
	wrong := []int64{-1, -2, 8193, 8194, -8192, 1 << 32, -1 << 32, least, least + 1, greatest, greatest - 1}
	right := []int64{0, 1, 4096, 8191, 8192}
	for _, size := range []int{0, 1, 6, 8191, 8192} {
		cells := mixed(size, 2, uint64(size)+191)
		for _, one := range wrong {
			for _, other := range append(right, wrong...) {
				expectPadded(t, cells, one, other, nil, impl.ErrRange)
				expectPadded(t, cells, other, one, nil, impl.ErrRange)
			}
		}
	}
	for _, cells := range notBits() {
		for _, before := range append(wrong, right...) {
			for _, after := range []int64{0, 1, 8192, 8193, -1, least, greatest} {
				expectPadded(t, cells, before, after, nil, impl.ErrInvalid)
			}
		}
	}
}

// shortLines returns all lines of at most size cells by their texts.
func shortLines(size int) map[string]lineShape {
	lines := map[string]lineShape{}
	add := func(x lineShape) {
		for after := 0; len(x.lineText(after)) <= size; after++ {
			lines[x.lineText(after)] = x
		}
	}
	for idle := range int64(size) {
		for _, preamble := range preambles() {
			add(lineShape{idle, preamble, nil})
			for value := range int64(256) {
				add(lineShape{idle, preamble, []int64{value}})
			}
		}
	}
	return lines
}

// Of all short cell lists exactly those that have been put together as lines are lines, each with what has been put into it.
func TestAllShortCellLists(t *testing.T) {
	const size = 17
	lines, found := shortLines(size), 0
	for _, cells := range shortBitLists(size) {
		want, is := lines[textOfCells(cells)]
		if got, isOne := shapeByReference(textOfCells(cells)); is != isOne || !slices.Equal(got.data, want.data) {
			t.Errorf("the reference takes %s for %v, want %v", textOfCells(cells), got, want)
		}
		if !is {
			expectNoLine(t, cells, impl.ErrSyntax)
			continue
		}
		found++
		expectLine(t, cells, want)
	}
	// Without bytes there are 12 + 11 + .. + 1 with 1 + 2 + .. choices of the idle cells, and with a byte 256 * (1 + 1 + 2).
	if found != len(lines) || found != 364+1024 {
		t.Errorf("%d lists are lines, want %d", found, len(lines))
	}
}

// Different bytes, preambles and numbers of idle cells make different lines, so they follow from a line in only one way.
func TestLinesAreDifferent(t *testing.T) {
	made := map[string]string{}
	for _, data := range cellData() {
		for _, preamble := range preambles() {
			cells, _ := impl.CellsOf(data, preamble)
			for idle := range int64(4) {
				for after := range int64(3) {
					line, _ := impl.PadLine(cells, idle, after)
					text, from := textOfCells(line), fmt.Sprint(idle, preamble, data)
					if other, is := made[text]; is && other != from {
						t.Errorf("%s is the line of %s and of %s", text, other, from)
					}
					made[text] = from
				}
			}
		}
	}
	if len(made) < 50000 {
		t.Errorf("there are %d lines", len(made))
	}
}

// changedCells returns cell lists near a line: with another cell, with one cell less or more, cut at both ends, and with one part
// twice or turned.
func changedCells(cells []int64) [][]int64 {
	var lists [][]int64
	for i, cell := range cells {
		before, behind := cells[:i], cells[i+1:]
		lists = append(lists, with(cells, i, 1-cell), joined(before, behind), joined(before, []int64{0, cell}, behind), joined(before, []int64{1, cell}, behind),
			joined(before, []int64{cell, cell, cell}, behind), before, behind, joined(cells, before), joined(behind, cells), joined(behind, before))
		if i > 0 {
			lists = append(lists, with(with(cells, i, 1-cell), i-1, 1-cells[i-1]), with(with(cells, i, cells[i-1]), i-1, cell))
		}
	}
	return append(lists, joined(cells, []int64{0}), joined(cells, []int64{1}), joined(cells, []int64{0, 1}), joined(cells, cells))
}

// changedLines are lines of no, one and more bytes with all kinds of idle cells around them.
func changedLines() []lineShape {
	var lines []lineShape
	for _, preamble := range []int64{3, 4, 8, 14, 15} {
		for i, data := range [][]int64{nil, {0}, {255}, {128}, {1}, {127}, {0, 0}, {255, 255}, {0x53, 0xA6}, {1, 2, 3}, {170, 85, 170, 85}, mixed(12, 256, 192)} {
			lines = append(lines, lineShape{int64(i % 3), preamble, data})
		}
	}
	return lines
}

// What is near a line is a line or none as the reference tells, and is read accordingly.
func TestChangedLines(t *testing.T) {
	lines, others := 0, 0
	for i, x := range changedLines() {
		for _, cells := range changedCells(bitsOfText(x.lineText(i % 4))) {
			if checkCells(t, cells) {
				lines++
			} else {
				others++
			}
		}
	}
	if lines < 2000 || others < 10000 {
		t.Errorf("%d of the changed lists are lines, and %d none", lines, others)
	}
}

// Lists of parts of transmissions in any order, of which some are lines.
func TestListsOfParts(t *testing.T) {
	parts := []string{"1", "0", "000", "10", "01", "11", "00", "1000000000", "1011111111", "1010101010", "0001", "01"}
	lines := 0
	for seed := range uint64(30000) {
		var text strings.Builder
		for _, part := range mixed(1+int(seed%7), int64(len(parts)), seed+193) {
			text.WriteString(parts[part])
		}
		if seed%2 == 0 {
			text.WriteString("01")
		}
		if checkCells(t, bitsOfText("000"+text.String())) {
			lines++
		}
		checkCells(t, bitsOfText(text.String()))
	}
	if lines < 500 {
		t.Errorf("%d of the lists are lines", lines)
	}
}

// Each of these lists is no line for one reason, which its name tells.
func TestNoLines(t *testing.T) {
	for name, text := range map[string]string{
		"empty": "", "one high": "1", "one low": "0", "all high": "11111111", "many high": strings.Repeat("1", 8192), "all low": "000", "many low": strings.Repeat("0", 15),
		"as many low as there are": strings.Repeat("0", 8192), "idle and low": "1110000000", "only a preamble and a frame start": "0001", "half a frame end": "00010",
		"a preamble of 0": "101", "a preamble of 1": "0101", "a preamble of 2": "00101", "a preamble of 16": strings.Repeat("0", 16) + "101", "a preamble of 17": strings.Repeat("0", 17) + "101",
		"a preamble of 2 behind idle cells": "1100101", "a preamble of 16 behind idle cells": "1" + strings.Repeat("0", 16) + "101", "a preamble of 2 and a byte": "00" + "1" + "1000000000" + "01",
		"a preamble of 16 and a byte": strings.Repeat("0", 16) + "1" + "1011001100" + "01", "a preamble that is interrupted": "0001000" + "101",
		"no frame start": "000" + "01", "no frame start before a byte": "000" + "1010101010" + "01", "a low frame start": "000" + "0" + "01", "a low frame start before a byte": "000" + "0" + "1011111111" + "01",
		"two frame starts": "000" + "11" + "01", "two frame starts before a byte": "000" + "11" + "1000000000" + "01",
		"no byte start": "000" + "1" + "11111111" + "01", "a byte start of two high cells": "000" + "1" + "1100000000" + "01", "a byte start of two low cells": "000" + "1" + "0011111111" + "01",
		"a byte start that is turned": "000" + "1" + "0111111110" + "01", "a wrong second byte start": "000" + "1" + "1011111111" + "1111111111" + "01", "no second byte start": "000" + "1" + "1011111111" + "11111111" + "01",
		"a wrong third byte start": "000" + "1" + "1000000000" + "1000000000" + "0000000000" + "01", "only a byte start": "000" + "1" + "10", "half a byte start": "000" + "1" + "1",
		"no frame end": "000" + "1" + "1010101010", "half a frame end behind a byte": "000" + "1" + "1010101010" + "0", "a frame end of two low cells": "000" + "1" + "1010101010" + "00",
		"a frame end of two high cells": "000" + "1" + "1010101010" + "11", "a frame end that is turned": "000" + "1" + "1010101010" + "10", "idle cells instead of the frame end": "000" + "1" + "1010101010" + "111111",
		"a frame end of two low cells without bytes": "000100", "a frame end of two high cells without bytes": "000111", "a frame end that is turned without bytes": "000110",
		"a byte of 7 bits": "000" + "1" + "101010101" + "01", "a byte of 9 bits": "000" + "1" + "10101010100" + "01", "a byte of 1 bit": "000" + "1" + "101" + "01", "a byte of no bits": "000" + "1" + "10" + "01",
		"a byte that is cut": "000" + "1" + "1010101", "a second byte that is cut": "000" + "1" + "1000000000" + "1011", "a byte whose last bit is cut": "000" + "1" + "101010101",
		"a low cell behind the frame end": "000101" + "0", "a low cell behind a byte and the frame end": "000" + "1" + "1010101010" + "01" + "0", "a low cell behind idle cells": "000101" + "1110",
		"a low cell in the idle cells": "000101" + "11101111", "a frame end twice": "000101" + "01", "a byte behind the frame end": "000101" + "1010101010" + "01",
		"a line backwards": "1010001",
	} {
		cells := bitsOfText(text)
		if checkCells(t, cells) {
			t.Errorf("the reference has %s as a line: %s", name, text)
		}
		expectNoLine(t, cells, impl.ErrSyntax)
	}
}

// All numbers of low cells are tried before a frame start, with and without a byte behind it.
func TestPreamblesOfLines(t *testing.T) {
	for preamble := range int64(60) {
		for _, data := range [][]int64{nil, {0}, {255}, {0x53}} {
			for _, idle := range []int64{0, 1, 5} {
				cells := bitsOfText(lineShape{idle, preamble, data}.lineText(2))
				if preamble >= 3 && preamble <= 15 {
					expectLine(t, cells, lineShape{idle, preamble, data})
				} else {
					expectNoLine(t, cells, impl.ErrSyntax)
				}
			}
		}
	}
}

// Two transmissions are no line, whatever stands between them, before and behind.
func TestTwoTransmissions(t *testing.T) {
	lists := [][]int64{nil, {0}, {255}, {128}, {1}, {7, 250}}
	for _, a := range lists {
		for _, b := range lists {
			for _, preamble := range preambles() {
				for between := range 12 {
					text := lineByReference(a, preamble) + strings.Repeat("1", between) + lineByReference(b, 18-preamble)
					expectNoLine(t, bitsOfText(text), impl.ErrSyntax)
					expectNoLine(t, bitsOfText("1"+text+"11"), impl.ErrSyntax)
				}
			}
		}
	}
}

// A list that is no cell list is told before what else is wrong with it, also if it would be a line without the wrong cell.
func TestLinesOfNoCellLists(t *testing.T) {
	for _, cells := range notBits() {
		expectNoLine(t, cells, impl.ErrInvalid)
	}
	for _, x := range changedLines() {
		cells := bitsOfText(x.lineText(1))
		for i := range cells {
			for _, wrong := range []int64{2, -1, 255, least, greatest, 1 << 32, cells[i] + 1<<32, cells[i] - 256, cells[i] + 2} {
				expectNoLine(t, with(cells, i, wrong), impl.ErrInvalid)
			}
		}
	}
	for _, size := range []int{8193, 8194, 8202, 10000, 16384} {
		expectNoLine(t, bitsOfText(lineShape{0, 3, []int64{9}}.lineText(size-16)), impl.ErrInvalid)
		expectNoLine(t, bitsOfText(lineShape{int64(size - 16), 3, []int64{9}}.lineText(0)), impl.ErrInvalid)
	}
	for _, data := range [][]int64{repeated(5, 819), repeated(5, 1024), repeated(5, 1025)} {
		expectNoLine(t, bitsOfText(lineByReference(data, 3)), impl.ErrInvalid)
	}
	expectNoLine(t, bitsOfText(lineByReference(repeated(5, 818), 10)), impl.ErrInvalid)
	expectLine(t, bitsOfText(lineByReference(repeated(5, 818), 9)), lineShape{0, 9, repeated(5, 818)})
}

// A line whose idle cells fill up the longest cell list.
func TestLongestIdleLines(t *testing.T) {
	for _, data := range [][]int64{nil, {0}, {255}, {0x53, 0xA6}} {
		rest := int64(8192 - len(lineByReference(data, 15)))
		for _, idle := range []int64{0, 1, 4000, rest - 1, rest} {
			expectLine(t, bitsOfText(lineShape{idle, 15, data}.lineText(int(rest-idle))), lineShape{idle, 15, data})
		}
		expectNoLine(t, bitsOfText(lineShape{rest - 1, 15, data}.lineText(0)+"0"), impl.ErrSyntax)
	}
}

// What chapter 8 counts for a slot are the cells of the sealed frame, as it is sent.
func TestCellsOfSealedFrames(t *testing.T) {
	for _, c := range someCases(7) {
		sealed, code := impl.SealFrame(c.f, c.id, c.s)
		expectNumber(t, c.name("SealFrame"), 0, code, 0, impl.ErrNone)
		cells, code := impl.CellsOf(sealed, impl.SendPreamble)
		expectNumber(t, c.name("CellsOf"), int64(len(cells)), code, cellsByReference(c.f.Kind, int64(len(c.f.Data))), impl.ErrNone)
		needed, code := impl.CellsNeeded(c.f.Kind, int64(len(c.f.Data)))
		expectNumber(t, c.name("CellsNeeded"), needed, code, int64(len(cells)), impl.ErrNone)
		checkTransmission(t, sealed, impl.SendPreamble, [2]int64{8, 20})
	}
}

// cellCalls are all functions of the chapter with their numbers fixed; what returns no list returns it as a list.
func cellCalls() []call {
	calls := []call{
		{"BytesOfLine", func(l [][]int64) []int64 { return first(impl.BytesOfLine(l[0])) }},
		{"DataCells", func(l [][]int64) []int64 { return first(impl.DataCells(l[0])) }},
		{"IsLine", func(l [][]int64) []int64 { return truth(impl.IsLine(l[0])) }},
		{"ShapeOfLine", func(l [][]int64) []int64 {
			idle, preamble, n, code := impl.ShapeOfLine(l[0])
			return []int64{idle, preamble, n, code}
		}},
	}
	for _, preamble := range []int64{2, 3, 9, 15, 16} {
		calls = append(calls, call{fmt.Sprint("CellsOf ", preamble), func(l [][]int64) []int64 { return first(impl.CellsOf(l[0], preamble)) }})
	}
	for _, pad := range [][]int64{{0, 0}, {1, 0}, {0, 1}, {3, 5}, {8192, 0}, {-1, 0}, {0, 8193}} {
		calls = append(calls, call{fmt.Sprint("PadLine ", pad), func(l [][]int64) []int64 { return first(impl.PadLine(l[0], pad[0], pad[1])) }})
	}
	return calls
}

// cellLists are arguments for which the functions succeed and fail in different ways.
func cellLists() [][]int64 {
	lists := append(memoryLists(), []int64{}, []int64{5}, []int64{256}, repeated(3, 818), repeated(3, 819), repeated(3, 1025), repeated(1, 20))
	for i, x := range changedLines() {
		cells := bitsOfText(x.lineText(i % 4))
		lists = append(lists, x.data, cells, joined(cells, []int64{0}), cells[:len(cells)-2], with(cells, i%len(cells), 2))
	}
	return lists
}

func TestCellsLeaveMemoryAlone(t *testing.T) {
	for _, list := range cellLists() {
		for _, c := range cellCalls() {
			checkMemory(t, c.name+" "+shortened(list), c.run, list)
		}
	}
}

// expectGoroutines fails the test if there are more goroutines than before, also after some time: one whose work is done may not
// have gone yet.
func expectGoroutines(t *testing.T, what string, before int) {
	t.Helper()
	for deadline := time.Now().Add(5 * time.Second); runtime.NumGoroutine() > before; time.Sleep(time.Millisecond) {
		if time.Now().After(deadline) {
			t.Fatalf("%s: there are %d goroutines, and there were %d before", what, runtime.NumGoroutine(), before)
		}
	}
}

func TestCellsLeaveNothingRunning(t *testing.T) {
	for _, c := range cellCalls() {
		before := runtime.NumGoroutine()
		for _, list := range cellLists() {
			c.run([][]int64{list})
		}
		expectGoroutines(t, c.name, before)
	}
}

// The argument may be overwritten as soon as a call has returned, and nothing reads or writes it, or the result, then.
func TestCellsAreCompleteBehindTheCall(t *testing.T) {
	for i, preamble := range preambles() {
		for _, size := range []int{0, 1, 2, 50, 400, 817} {
			data := mixed(size, 256, uint64(size+i)+194)
			want := bitsOfText(lineByReference(data, preamble))
			cells, code := impl.CellsOf(data, preamble)
			fill(data, mark)
			expectList(t, "CellsOf", cells, code, want, impl.ErrNone)
			runtime.Gosched()
			expectList(t, "the cells after a while", cells, 0, want, 0)
			expectList(t, "the argument after a while", data, 0, repeated(mark, size), 0)
		}
	}
}

// The same call answers the same each time, also while others are made with the same arguments.
func TestCellsAnswerTheSame(t *testing.T) {
	lists, calls := cellLists(), cellCalls()
	before := runtime.NumGoroutine()
	answers := func() [][]int64 {
		var all [][]int64
		for _, list := range lists {
			for _, c := range calls {
				all = append(all, c.run([][]int64{list}))
			}
		}
		return all
	}
	want := answers()
	var group sync.WaitGroup
	for range 8 {
		group.Go(func() {
			for i, got := range answers() {
				if !slices.Equal(got, want[i]) {
					t.Errorf("%s %s: %s, and before %s", calls[i%len(calls)].name, shortened(lists[i/len(calls)]), shortened(got), shortened(want[i]))
				}
			}
		})
	}
	group.Wait()
	expectGoroutines(t, "all calls", before)
}
