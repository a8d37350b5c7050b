package tests

import (
	"fmt"
	"regexp"
	"slices"
	"strings"
	"sync"
	"testing"

	"loop.example/g00833/impl"
)

// beginningPattern finds the longest beginning of a line with which a text begins. Its groups are a preamble that may go on, a
// preamble with a frame start behind it, the bytes with their starts, and what stands behind them.
var beginningPattern = longestMatch(`\A1*(?:(0{1,15})|(0{3,15})1((?:10[01]{8})*)(1|10[01]{0,7}|01*)?)?`)

func longestMatch(pattern string) *regexp.Regexp {
	expression := regexp.MustCompile(pattern)
	expression.Longest()
	return expression
}

// scanByReference returns the scan after the cells of a text and the index of the cell that is wrong, or -1. It does not use
// the program.
func scanByReference(text string) (impl.Scan, int64) {
	groups := beginningPattern.FindStringSubmatch(text)
	s := impl.Scan{Phase: impl.PhaseIdle}
	open, preamble, bytes, tail := groups[1], groups[2], groups[3], groups[4]
	for ; bytes != ""; bytes = bytes[10:] {
		s.Bytes = append(s.Bytes, numberOfBits(bitsOfText(bytes[2:10])))
	}
	switch {
	case preamble == "" && open != "":
		s.Phase, s.Count = impl.PhasePreamble, int64(len(open))
	case preamble == "":
	case tail == "":
		s.Phase = impl.PhaseNext
	case tail == "1":
		s.Phase = impl.PhaseByte
	case tail == "0":
		s.Phase = impl.PhaseEnd
	case tail[0] == '0':
		s.Phase = impl.PhaseDone
	default:
		s.Phase, s.Count, s.Value = impl.PhaseBits, int64(len(tail)-2), numberOfBits(bitsOfText("0"+tail[2:]))
	}
	if len(groups[0]) < len(text) {
		s.Phase = impl.PhaseError
		return s, int64(len(groups[0]))
	}
	return s, -1
}

// scanPhases are the phases after a cell 0 and after a cell 1, by the phase before, as far as no number decides.
var scanPhases = [8][2]int64{
	impl.PhaseIdle:     {impl.PhasePreamble, impl.PhaseIdle},
	impl.PhasePreamble: {impl.PhasePreamble, impl.PhaseNext},
	impl.PhaseNext:     {impl.PhaseEnd, impl.PhaseByte},
	impl.PhaseByte:     {impl.PhaseBits, impl.PhaseError},
	impl.PhaseBits:     {impl.PhaseBits, impl.PhaseBits},
	impl.PhaseEnd:      {impl.PhaseError, impl.PhaseDone},
	impl.PhaseDone:     {impl.PhaseError, impl.PhaseDone},
	impl.PhaseError:    {impl.PhaseError, impl.PhaseError},
}

// changedByReference returns the valid scan that a cell has changed as the table of the chapter tells. It does not use the program.
func changedByReference(s impl.Scan, cell int64) impl.Scan {
	phase, next := s.Phase, s
	next.Phase = scanPhases[phase][cell]
	switch {
	case phase == impl.PhasePreamble && (cell == 0 && s.Count == 15 || cell == 1 && s.Count < 3):
		next.Phase = impl.PhaseError
	case phase == impl.PhasePreamble && cell == 0:
		next.Count = s.Count + 1
	case phase == impl.PhasePreamble:
		next.Count = 0
	case phase == impl.PhaseIdle && cell == 0:
		next.Count = 1
	case phase == impl.PhaseByte && cell == 0:
		next.Count, next.Value = 0, 0
	case phase == impl.PhaseBits && s.Count == 7:
		next = impl.Scan{Phase: impl.PhaseNext, Bytes: joined(s.Bytes, []int64{2*s.Value + cell})}
	case phase == impl.PhaseBits:
		next.Count, next.Value = s.Count+1, 2*s.Value+cell
	}
	return next
}

// codeOfScan returns the error of a scan without a cell. It does not use the program.
func codeOfScan(s impl.Scan) int64 {
	isBad := s.Phase < 0 || s.Phase > 7 || s.Count < 0 || s.Count > 15 || s.Value < 0 || s.Value > 255 || len(s.Bytes) > 1024
	if isBad || slices.ContainsFunc(s.Bytes, func(value int64) bool { return value < 0 || value > 255 }) {
		return impl.ErrInvalid
	}
	return impl.ErrNone
}

// stepByReference returns the scan after a cell, or its error. It does not use the program.
func stepByReference(s impl.Scan, cell int64) (impl.Scan, int64) {
	if code := codeOfScan(s); code != impl.ErrNone {
		return impl.Scan{}, code
	}
	isBits := s.Phase == impl.PhaseBits
	if cell < 0 || cell > 1 || isBits && (s.Count > 7 || s.Value > []int64{0, 1, 3, 7, 15, 31, 63, 127}[s.Count]) {
		return impl.Scan{}, impl.ErrRange
	}
	if isBits && s.Count == 7 && len(s.Bytes) == 1024 {
		return impl.Scan{}, impl.ErrLimit
	}
	return changedByReference(s, cell), impl.ErrNone
}

// steppedByReference returns the scan after some cells, or the error of the first cell that has one. It does not use the program.
func steppedByReference(s impl.Scan, cells []int64) (impl.Scan, int64) {
	code := codeOfScan(s)
	if code != impl.ErrNone {
		return impl.Scan{}, code
	}
	for _, cell := range cells {
		if s, code = stepByReference(s, cell); code != impl.ErrNone {
			return impl.Scan{}, code
		}
	}
	return s, impl.ErrNone
}

func sameScans(a impl.Scan, b impl.Scan) bool {
	return a.Phase == b.Phase && a.Count == b.Count && a.Value == b.Value && slices.Equal(a.Bytes, b.Bytes)
}

func nameOfScan(s impl.Scan) string {
	return fmt.Sprintf("{%d %d %d %s}", s.Phase, s.Count, s.Value, shortened(s.Bytes))
}

func expectStepped(t *testing.T, s impl.Scan, cell int64, want impl.Scan, wantCode int64) {
	t.Helper()
	if got, code := impl.StepCell(s, cell); code != wantCode || !sameScans(got, want) {
		t.Errorf("StepCell %s %d: %s, code %d, want %s, code %d", nameOfScan(s), cell, nameOfScan(got), code, nameOfScan(want), wantCode)
	}
}

func expectScanned(t *testing.T, s impl.Scan, cells []int64, want impl.Scan, wantCode int64) {
	t.Helper()
	if got, code := impl.ScanCells(s, cells); code != wantCode || !sameScans(got, want) {
		t.Errorf("ScanCells %s %s: %s, code %d, want %s, code %d", nameOfScan(s), shortened(cells), nameOfScan(got), code, nameOfScan(want), wantCode)
	}
}

func expectWrongCell(t *testing.T, cells []int64, want int64, wantCode int64) {
	t.Helper()
	if got, code := impl.FirstWrongCell(cells); code != wantCode || got != want {
		t.Errorf("FirstWrongCell %s: %d, code %d, want %d, code %d", shortened(cells), got, code, want, wantCode)
	}
}

func expectMissing(t *testing.T, cells []int64, want []int64, wantCode int64) {
	t.Helper()
	if got, code := impl.CellsMissing(cells); code != wantCode || !slices.Equal(got, want) {
		t.Errorf("CellsMissing %s: %s, code %d, want %s, code %d", shortened(cells), shortened(got), code, shortened(want), wantCode)
	}
}

func expectIsScan(t *testing.T, s impl.Scan, want bool) {
	t.Helper()
	if impl.IsScan(s) != want {
		t.Errorf("IsScan %s is not %v", nameOfScan(s), want)
	}
	if got := impl.IsFinished(s); got != (want && s.Phase == 6) {
		t.Errorf("IsFinished %s is %v", nameOfScan(s), got)
	}
}

// checkStep compares StepCell and ScanCells of one cell with the reference, and returns the code.
func checkStep(t *testing.T, s impl.Scan, cell int64) int64 {
	t.Helper()
	want, code := stepByReference(s, cell)
	expectStepped(t, s, cell, want, code)
	expectScanned(t, s, []int64{cell}, want, code)
	return code
}

func checkScanned(t *testing.T, s impl.Scan, cells []int64) {
	t.Helper()
	want, code := steppedByReference(s, cells)
	expectScanned(t, s, cells, want, code)
}

// checkRecognised fails the test if the recogniser, beginning anew, does not finish exactly on a line, with its bytes, or if the
// scan or the first wrong cell is not that of the reference. It returns whether some cells can be appended so that a line results.
func checkRecognised(t *testing.T, cells []int64) bool {
	t.Helper()
	want, wrong := scanByReference(textOfCells(cells))
	s, code := impl.ScanCells(impl.NewScan(), cells)
	if code != impl.ErrNone || !sameScans(s, want) {
		t.Errorf("ScanCells %s: %s, code %d, want %s", textOfCells(cells), nameOfScan(s), code, nameOfScan(want))
	}
	if impl.IsFinished(s) != impl.IsLine(cells) {
		t.Errorf("%s: IsFinished is %v, IsLine %v", textOfCells(cells), impl.IsFinished(s), impl.IsLine(cells))
	}
	if data, _ := impl.BytesOfLine(cells); impl.IsLine(cells) && !slices.Equal(data, s.Bytes) {
		t.Errorf("%s: the scan has %s, and the line %s", textOfCells(cells), shortened(s.Bytes), shortened(data))
	}
	expectWrongCell(t, cells, wrong, impl.ErrNone)
	if wrong != -1 {
		expectMissing(t, cells, nil, impl.ErrNotFound)
	}
	return wrong == -1
}

// missingByReference returns what a scan lacks up to a line, written out phase by phase. It does not use the program.
func missingByReference(s impl.Scan) []int64 {
	zeros := func(size int64) string { return strings.Repeat("0", int(max(size, 0))) }
	text := map[int64]string{
		impl.PhaseIdle: "000101", impl.PhasePreamble: zeros(3-s.Count) + "101", impl.PhaseNext: "01", impl.PhaseByte: "00000000001",
		impl.PhaseBits: zeros(8-s.Count) + "01", impl.PhaseEnd: "1", impl.PhaseDone: "",
	}[s.Phase]
	return bitsOfText(text)
}

// checkMissing fails the test if the missing cells are not those of the reference, or make no line. It returns the phase.
func checkMissing(t *testing.T, cells []int64) int64 {
	t.Helper()
	s, wrong := scanByReference(textOfCells(cells))
	if wrong != -1 {
		expectMissing(t, cells, nil, impl.ErrNotFound)
		return s.Phase
	}
	want := missingByReference(s)
	expectMissing(t, cells, want, impl.ErrNone)
	if !linePattern.MatchString(textOfCells(joined(cells, want))) {
		t.Errorf("the reference has %v for %s, which makes no line", want, textOfCells(cells))
	}
	return s.Phase
}

func TestConstantsOfScans(t *testing.T) {
	got := []int64{impl.PhaseIdle, impl.PhasePreamble, impl.PhaseNext, impl.PhaseByte, impl.PhaseBits, impl.PhaseEnd, impl.PhaseDone, impl.PhaseError}
	expectList(t, "the constants", got, 0, rising(8), 0)
}

func TestNewScan(t *testing.T) {
	s := impl.NewScan()
	if !sameScans(s, impl.Scan{}) || s.Phase != impl.PhaseIdle {
		t.Errorf("NewScan is %s", nameOfScan(s))
	}
	expectIsScan(t, s, true)
	fill(s.Bytes[:cap(s.Bytes)], mark)
	s.Phase, s.Bytes = impl.PhaseDone, append(s.Bytes, 5)
	if again := impl.NewScan(); !sameScans(again, impl.Scan{}) {
		t.Errorf("another NewScan is %s", nameOfScan(again))
	}
}

// validBytes are byte lists of no, some and as many bytes as there may be.
func validBytes() [][]int64 {
	return [][]int64{nil, {}, {0}, {255}, {1, 2, 3}, mixed(100, 256, 200), mixed(1023, 256, 201), mixed(1024, 256, 202)}
}

// shortBytes are the first of them.
func shortBytes() [][]int64 { return validBytes()[:5] }

// allScans are scans of all phases, counts and values, each with some bytes.
func allScans() []impl.Scan {
	var scans []impl.Scan
	for phase := range int64(8) {
		for count := range int64(16) {
			for value := range int64(256) {
				scans = append(scans, impl.Scan{Phase: phase, Count: count, Value: value, Bytes: shortBytes()[(phase+count+value)%5]})
			}
		}
	}
	return scans
}

// edgeScans are scans of all phases and counts with the values at the edges of these counts, and with all kinds of bytes.
func edgeScans() []impl.Scan {
	var scans []impl.Scan
	for phase := range int64(8) {
		for count := range int64(16) {
			for _, value := range []int64{0, 1<<min(count, 8) - 1, 1 << min(count, 7), 255} {
				for _, bytes := range validBytes() {
					scans = append(scans, impl.Scan{Phase: phase, Count: count, Value: value, Bytes: bytes})
				}
			}
		}
	}
	return scans
}

// farOff are numbers that no field may have, with those next to 0..greatestOne among them.
func farOff(greatestOne int64) []int64 {
	return []int64{-1, greatestOne + 1, -2, greatestOne + 2, -256, 1 << 32, 1<<32 + 1, -1 << 32, least, least + 1, greatest, greatest - 1}
}

// notScans are scans of which one field is not valid.
func notScans() []impl.Scan {
	var scans []impl.Scan
	for _, s := range edgeScans() {
		if len(s.Bytes) > 3 || s.Count%5 != 0 && s.Count != 7 && s.Count != 8 {
			continue
		}
		k := len(scans)
		for _, phase := range farOff(7) {
			scans = append(scans, impl.Scan{Phase: phase, Count: s.Count, Value: s.Value, Bytes: s.Bytes})
		}
		for _, count := range farOff(15) {
			scans = append(scans, impl.Scan{Phase: s.Phase, Count: count, Value: s.Value, Bytes: s.Bytes})
		}
		for _, value := range farOff(255) {
			scans = append(scans, impl.Scan{Phase: s.Phase, Count: s.Count, Value: value, Bytes: s.Bytes})
		}
		scans = append(scans, impl.Scan{Phase: s.Phase, Count: s.Count, Value: s.Value, Bytes: notBytes()[k%len(notBytes())]})
	}
	for phase := range int64(8) {
		for _, bytes := range notBytes() {
			scans = append(scans, impl.Scan{Phase: phase, Bytes: bytes}, impl.Scan{Phase: phase, Count: 7, Value: 127, Bytes: bytes})
		}
	}
	return scans
}

// notCells are numbers that are no cells.
func notCells() []int64 { return append(farOff(1), 255, 256, 1<<33, 1<<63-256) }

func TestIsScan(t *testing.T) {
	for _, s := range append(allScans(), edgeScans()...) {
		expectIsScan(t, s, true)
	}
	for _, s := range notScans() {
		expectIsScan(t, s, false)
	}
	for phase := range int64(8) {
		expectIsScan(t, impl.Scan{Phase: phase, Count: 15, Value: 255, Bytes: repeated(255, 1024)}, true)
		expectIsScan(t, impl.Scan{Phase: phase, Count: 16, Value: 255, Bytes: repeated(255, 1024)}, false)
		expectIsScan(t, impl.Scan{Phase: phase, Count: 15, Value: 256, Bytes: repeated(255, 1024)}, false)
		expectIsScan(t, impl.Scan{Phase: phase, Count: 15, Value: 255, Bytes: repeated(255, 1025)}, false)
		expectIsScan(t, impl.Scan{Phase: phase, Bytes: []int64{0, 256}}, false)
		expectIsScan(t, impl.Scan{Phase: phase, Bytes: []int64{-1}}, false)
	}
	expectIsScan(t, impl.Scan{Phase: 8}, false)
	expectIsScan(t, impl.Scan{Phase: -1}, false)
}

// Each row of the table with both cells, written out by hand, with numbers and bytes that remain or do not.
func TestRowsOfTheTable(t *testing.T) {
	data, more := []int64{9, 8}, []int64{9, 8, 0xB3}
	for _, x := range []struct {
		before, low, high impl.Scan
	}{
		{impl.Scan{}, impl.Scan{Phase: 1, Count: 1}, impl.Scan{}},
		{impl.Scan{Phase: 0, Count: 5, Value: 6, Bytes: data}, impl.Scan{Phase: 1, Count: 1, Value: 6, Bytes: data}, impl.Scan{Phase: 0, Count: 5, Value: 6, Bytes: data}},
		{impl.Scan{Phase: 0, Count: 15, Value: 6, Bytes: data}, impl.Scan{Phase: 1, Count: 1, Value: 6, Bytes: data}, impl.Scan{Phase: 0, Count: 15, Value: 6, Bytes: data}},
		{impl.Scan{Phase: 1, Count: 0, Value: 6, Bytes: data}, impl.Scan{Phase: 1, Count: 1, Value: 6, Bytes: data}, impl.Scan{Phase: 7, Count: 0, Value: 6, Bytes: data}},
		{impl.Scan{Phase: 1, Count: 1, Value: 6, Bytes: data}, impl.Scan{Phase: 1, Count: 2, Value: 6, Bytes: data}, impl.Scan{Phase: 7, Count: 1, Value: 6, Bytes: data}},
		{impl.Scan{Phase: 1, Count: 2}, impl.Scan{Phase: 1, Count: 3}, impl.Scan{Phase: 7, Count: 2}},
		{impl.Scan{Phase: 1, Count: 3}, impl.Scan{Phase: 1, Count: 4}, impl.Scan{Phase: 2}},
		{impl.Scan{Phase: 1, Count: 3, Value: 6, Bytes: data}, impl.Scan{Phase: 1, Count: 4, Value: 6, Bytes: data}, impl.Scan{Phase: 2, Value: 6, Bytes: data}},
		{impl.Scan{Phase: 1, Count: 14}, impl.Scan{Phase: 1, Count: 15}, impl.Scan{Phase: 2}},
		{impl.Scan{Phase: 1, Count: 15}, impl.Scan{Phase: 7, Count: 15}, impl.Scan{Phase: 2}},
		{impl.Scan{Phase: 1, Count: 15, Value: 6, Bytes: data}, impl.Scan{Phase: 7, Count: 15, Value: 6, Bytes: data}, impl.Scan{Phase: 2, Value: 6, Bytes: data}},
		{impl.Scan{Phase: 2}, impl.Scan{Phase: 5}, impl.Scan{Phase: 3}},
		{impl.Scan{Phase: 2, Count: 5, Value: 6, Bytes: data}, impl.Scan{Phase: 5, Count: 5, Value: 6, Bytes: data}, impl.Scan{Phase: 3, Count: 5, Value: 6, Bytes: data}},
		{impl.Scan{Phase: 3}, impl.Scan{Phase: 4}, impl.Scan{Phase: 7}},
		{impl.Scan{Phase: 3, Count: 5, Value: 6, Bytes: data}, impl.Scan{Phase: 4, Bytes: data}, impl.Scan{Phase: 7, Count: 5, Value: 6, Bytes: data}},
		{impl.Scan{Phase: 4, Bytes: data}, impl.Scan{Phase: 4, Count: 1, Bytes: data}, impl.Scan{Phase: 4, Count: 1, Value: 1, Bytes: data}},
		{impl.Scan{Phase: 4, Count: 3, Value: 5, Bytes: data}, impl.Scan{Phase: 4, Count: 4, Value: 10, Bytes: data}, impl.Scan{Phase: 4, Count: 4, Value: 11, Bytes: data}},
		{impl.Scan{Phase: 4, Count: 6, Value: 63}, impl.Scan{Phase: 4, Count: 7, Value: 126}, impl.Scan{Phase: 4, Count: 7, Value: 127}},
		{impl.Scan{Phase: 4, Count: 7}, impl.Scan{Phase: 2, Bytes: []int64{0}}, impl.Scan{Phase: 2, Bytes: []int64{1}}},
		{impl.Scan{Phase: 4, Count: 7, Value: 127}, impl.Scan{Phase: 2, Bytes: []int64{254}}, impl.Scan{Phase: 2, Bytes: []int64{255}}},
		{impl.Scan{Phase: 4, Count: 7, Value: 89, Bytes: data}, impl.Scan{Phase: 2, Bytes: with(more, 2, 0xB2)}, impl.Scan{Phase: 2, Bytes: more}},
		{impl.Scan{Phase: 5}, impl.Scan{Phase: 7}, impl.Scan{Phase: 6}},
		{impl.Scan{Phase: 5, Count: 5, Value: 6, Bytes: data}, impl.Scan{Phase: 7, Count: 5, Value: 6, Bytes: data}, impl.Scan{Phase: 6, Count: 5, Value: 6, Bytes: data}},
		{impl.Scan{Phase: 6}, impl.Scan{Phase: 7}, impl.Scan{Phase: 6}},
		{impl.Scan{Phase: 6, Count: 5, Value: 6, Bytes: data}, impl.Scan{Phase: 7, Count: 5, Value: 6, Bytes: data}, impl.Scan{Phase: 6, Count: 5, Value: 6, Bytes: data}},
		{impl.Scan{Phase: 7}, impl.Scan{Phase: 7}, impl.Scan{Phase: 7}},
		{impl.Scan{Phase: 7, Count: 5, Value: 6, Bytes: data}, impl.Scan{Phase: 7, Count: 5, Value: 6, Bytes: data}, impl.Scan{Phase: 7, Count: 5, Value: 6, Bytes: data}},
	} {
		expectStepped(t, x.before, 0, x.low, impl.ErrNone)
		expectStepped(t, x.before, 1, x.high, impl.ErrNone)
		expectScanned(t, x.before, []int64{0}, x.low, impl.ErrNone)
		expectScanned(t, x.before, []int64{1}, x.high, impl.ErrNone)
		checkStep(t, x.before, 0)
		checkStep(t, x.before, 1)
	}
}

// All phases, counts and values with both cells; of the scans in PhaseBits 255 have a value that fits its count.
func TestStepsOfAllScans(t *testing.T) {
	right, wrong := 0, 0
	for _, s := range allScans() {
		for cell := range int64(2) {
			if code := checkStep(t, s, cell); code == impl.ErrNone {
				right++
			} else {
				wrong++
			}
		}
	}
	if right != 2*(7*16*256+255) || wrong != 2*(16*256-255) {
		t.Errorf("%d cells are taken, and %d are not", right, wrong)
	}
	for _, s := range edgeScans() {
		checkStep(t, s, 0)
		checkStep(t, s, 1)
	}
}

// A cell that is none is told for all scans, also behind PhaseDone and PhaseError, where no cell changes anything.
func TestStepsOfNoCells(t *testing.T) {
	for _, s := range edgeScans() {
		if len(s.Bytes) > 3 && s.Count%7 != 0 {
			continue
		}
		for _, cell := range notCells() {
			expectStepped(t, s, cell, impl.Scan{}, impl.ErrRange)
			expectScanned(t, s, []int64{cell}, impl.Scan{}, impl.ErrRange)
		}
	}
}

// In PhaseBits the count and the value are in range before a cell is taken, and nowhere else.
func TestStepsOfWrongBits(t *testing.T) {
	for count := range int64(16) {
		for _, value := range []int64{0, 1, 1<<min(count, 7) - 1, 1 << min(count, 7), 127, 128, 254, 255} {
			isRight := count < 8 && value < 1<<count
			for cell := range int64(2) {
				for phase := range int64(8) {
					want := int64(impl.ErrNone)
					if phase == 4 && !isRight {
						want = impl.ErrRange
					}
					if code := checkStep(t, impl.Scan{Phase: phase, Count: count, Value: value}, cell); code != want {
						t.Errorf("the reference has %d for %d %d %d", code, phase, count, value)
					}
				}
			}
		}
	}
	expectStepped(t, impl.Scan{Phase: 4, Count: 8}, 0, impl.Scan{}, impl.ErrRange)
	expectStepped(t, impl.Scan{Phase: 4, Count: 0, Value: 1}, 0, impl.Scan{}, impl.ErrRange)
	expectStepped(t, impl.Scan{Phase: 4, Count: 1, Value: 2}, 1, impl.Scan{}, impl.ErrRange)
	expectStepped(t, impl.Scan{Phase: 4, Count: 7, Value: 128}, 1, impl.Scan{}, impl.ErrRange)
}

// As many bytes as there may be just before a further one ends: only its eighth bit is one too many.
func TestStepsAtTheLimit(t *testing.T) {
	for _, size := range []int{1022, 1023, 1024} {
		data := mixed(size, 256, uint64(size)+203)
		for phase := range int64(8) {
			for count := range int64(8) {
				for _, value := range []int64{0, 1<<count - 1} {
					for cell := range int64(2) {
						want := int64(impl.ErrNone)
						if size == 1024 && phase == 4 && count == 7 {
							want = impl.ErrLimit
						}
						if code := checkStep(t, impl.Scan{Phase: phase, Count: count, Value: value, Bytes: data}, cell); code != want {
							t.Errorf("the reference has %d for %d bytes, %d, %d", code, size, phase, count)
						}
					}
				}
			}
		}
	}
	data := repeated(7, 1023)
	expectStepped(t, impl.Scan{Phase: 4, Count: 7, Value: 3, Bytes: data}, 1, impl.Scan{Phase: 2, Bytes: joined(data, []int64{7})}, impl.ErrNone)
	expectStepped(t, impl.Scan{Phase: 4, Count: 7, Value: 3, Bytes: repeated(7, 1024)}, 1, impl.Scan{}, impl.ErrLimit)
}

// Only the first error of several is told: a scan that is not valid, a cell or a number out of range, a byte too many.
func TestOrderOfStepErrors(t *testing.T) {
	for _, s := range notScans() {
		for _, cell := range []int64{0, 1, 2, -1, least, greatest} {
			expectStepped(t, s, cell, impl.Scan{}, impl.ErrInvalid)
			expectScanned(t, s, []int64{cell}, impl.Scan{}, impl.ErrInvalid)
		}
		expectScanned(t, s, nil, impl.Scan{}, impl.ErrInvalid)
		expectScanned(t, s, []int64{}, impl.Scan{}, impl.ErrInvalid)
		expectScanned(t, s, []int64{0, 2, 1}, impl.Scan{}, impl.ErrInvalid)
	}
	full := repeated(7, 1024)
	for _, cell := range notCells() {
		expectStepped(t, impl.Scan{Phase: 4, Count: 7, Value: 3, Bytes: full}, cell, impl.Scan{}, impl.ErrRange)
		expectStepped(t, impl.Scan{Phase: 4, Count: 8, Value: 3, Bytes: full}, cell, impl.Scan{}, impl.ErrRange)
		expectStepped(t, impl.Scan{Phase: 4, Count: 7, Value: 3, Bytes: append(full, 7)}, cell, impl.Scan{}, impl.ErrInvalid)
	}
	for cell := range int64(2) {
		expectStepped(t, impl.Scan{Phase: 4, Count: 7, Value: 128, Bytes: full}, cell, impl.Scan{}, impl.ErrRange)
		expectStepped(t, impl.Scan{Phase: 4, Count: 8, Value: 3, Bytes: full}, cell, impl.Scan{}, impl.ErrRange)
		expectStepped(t, impl.Scan{Phase: 4, Count: 15, Value: 255, Bytes: full}, cell, impl.Scan{}, impl.ErrRange)
		expectStepped(t, impl.Scan{Phase: 4, Count: 7, Value: 128, Bytes: append(full, 7)}, cell, impl.Scan{}, impl.ErrInvalid)
		expectStepped(t, impl.Scan{Phase: 4, Count: 7, Value: 256, Bytes: full}, cell, impl.Scan{}, impl.ErrInvalid)
		expectStepped(t, impl.Scan{Phase: 4, Count: 16, Value: 3, Bytes: full}, cell, impl.Scan{}, impl.ErrInvalid)
		expectStepped(t, impl.Scan{Phase: 8, Count: 7, Value: 3, Bytes: full}, cell, impl.Scan{}, impl.ErrInvalid)
	}
}

// Without cells each valid scan is as it was, also one that would refuse every cell.
func TestScansOfNoCells(t *testing.T) {
	for _, s := range append(allScans(), edgeScans()...) {
		expectScanned(t, s, nil, s, impl.ErrNone)
		expectScanned(t, s, []int64{}, s, impl.ErrNone)
	}
	expectScanned(t, impl.Scan{Phase: 4, Count: 8, Value: 255, Bytes: []int64{5}}, nil, impl.Scan{Phase: 4, Count: 8, Value: 255, Bytes: []int64{5}}, impl.ErrNone)
}

// Cells behind PhaseDone and PhaseError.
func TestScansBehindTheEnd(t *testing.T) {
	done := impl.Scan{Phase: 6, Count: 2, Value: 3, Bytes: []int64{4, 5}}
	failed := impl.Scan{Phase: 7, Count: 2, Value: 3, Bytes: []int64{4, 5}}
	expectScanned(t, done, repeated(1, 100), done, impl.ErrNone)
	expectScanned(t, done, []int64{1, 1, 0}, failed, impl.ErrNone)
	expectScanned(t, done, []int64{0, 0, 0, 0, 1, 0, 1}, failed, impl.ErrNone)
	for _, cells := range shortBitLists(8) {
		expectScanned(t, failed, cells, failed, impl.ErrNone)
		want := done
		if slices.Contains(cells, 0) {
			want = failed
		}
		expectScanned(t, done, cells, want, impl.ErrNone)
	}
	expectScanned(t, failed, []int64{1, 2}, impl.Scan{}, impl.ErrRange)
	expectScanned(t, done, []int64{1, -1}, impl.Scan{}, impl.ErrRange)
}

// Scans of all kinds with cells that follow no pattern, and with lines, are as the reference has them cell by cell.
func TestScansOfManyCells(t *testing.T) {
	for i, s := range edgeScans() {
		for size := range 12 {
			checkScanned(t, s, mixed(size, 2, uint64(i*12+size)+204))
		}
		checkScanned(t, s, bitsOfText("1"+lineByReference([]int64{int64(i % 256), 7}, 3)))
		checkScanned(t, s, bitsOfText(lineByReference([]int64{int64(i % 256)}, 3)[4:]))
	}
}

// The scan of two parts is that of the whole, wherever it is parted.
func TestScansOfTwoParts(t *testing.T) {
	for i, x := range changedLines() {
		cells := bitsOfText(x.lineText(i % 4))
		for _, whole := range [][]int64{cells, with(cells, len(cells)/2, 1-cells[len(cells)/2]), cells[:len(cells)-3]} {
			want, _ := scanByReference(textOfCells(whole))
			for at := range len(whole) + 1 {
				s, code := impl.ScanCells(impl.NewScan(), whole[:at])
				expectNumber(t, "ScanCells of a first part", 0, code, 0, impl.ErrNone)
				expectScanned(t, s, whole[at:], want, impl.ErrNone)
			}
		}
		s := impl.NewScan()
		for _, cell := range cells {
			s, _ = impl.StepCell(s, cell)
		}
		expectScanned(t, s, nil, impl.Scan{Phase: 6, Bytes: x.data}, impl.ErrNone)
	}
}

// The first cell that has an error tells it, whatever stands behind it.
func TestFirstErrorOfScans(t *testing.T) {
	line := bitsOfText("11" + lineByReference([]int64{0x53, 0xA6}, 4) + "1")
	for i := range line {
		for _, wrong := range notCells() {
			expectScanned(t, impl.NewScan(), with(line, i, wrong), impl.Scan{}, impl.ErrRange)
			expectScanned(t, impl.NewScan(), joined(line[:i], []int64{wrong}), impl.Scan{}, impl.ErrRange)
		}
	}
	full := impl.Scan{Phase: impl.PhaseNext, Bytes: repeated(7, 1024)}
	ending := bitsOfText("1000000111")
	for i := range ending {
		expectScanned(t, full, ending[:i], impl.Scan{Phase: []int64{2, 3, 4}[min(i, 2)], Count: max(int64(i)-2, 0), Value: []int64{0, 1, 3}[max(i-7, 0)], Bytes: full.Bytes}, impl.ErrNone)
		expectScanned(t, full, with(ending, i, 2), impl.Scan{}, impl.ErrRange)
	}
	expectScanned(t, full, ending, impl.Scan{}, impl.ErrLimit)
	expectScanned(t, full, append(ending, 2), impl.Scan{}, impl.ErrLimit)
	expectScanned(t, full, append(ending, 0, 1, 1), impl.Scan{}, impl.ErrLimit)
	for _, s := range []impl.Scan{{Phase: 4, Count: 8}, {Phase: 4, Count: 2, Value: 4}} {
		expectScanned(t, s, []int64{1, 0, 2}, impl.Scan{}, impl.ErrRange)
		expectScanned(t, s, []int64{2}, impl.Scan{}, impl.ErrRange)
	}
}

// ScanCells takes more cells than a cell list may have, and just as many bytes as a byte list may have.
func TestScansOfLongLists(t *testing.T) {
	expectScanned(t, impl.NewScan(), repeated(1, 20000), impl.Scan{}, impl.ErrNone)
	expectScanned(t, impl.NewScan(), joined(repeated(1, 20000), []int64{0, 0}), impl.Scan{Phase: 1, Count: 2}, impl.ErrNone)
	expectScanned(t, impl.NewScan(), repeated(0, 20000), impl.Scan{Phase: 7, Count: 15}, impl.ErrNone)
	expectScanned(t, impl.NewScan(), joined(repeated(0, 20000), []int64{2}), impl.Scan{}, impl.ErrRange)
	for _, size := range []int{818, 819, 1023, 1024} {
		data := mixed(size, 256, uint64(size)+205)
		cells := bitsOfText(lineByReference(data, 8) + "11")
		expectScanned(t, impl.NewScan(), cells, impl.Scan{Phase: 6, Bytes: data}, impl.ErrNone)
		expectScanned(t, impl.NewScan(), append(cells, 0), impl.Scan{Phase: 7, Bytes: data}, impl.ErrNone)
	}
	data := mixed(1025, 256, 206)
	cells := bitsOfText(lineByReference(data, 8))
	expectScanned(t, impl.NewScan(), cells, impl.Scan{}, impl.ErrLimit)
	expectScanned(t, impl.NewScan(), cells[:len(cells)-2], impl.Scan{}, impl.ErrLimit)
	expectScanned(t, impl.NewScan(), cells[:len(cells)-3], impl.Scan{Phase: 4, Count: 7, Value: data[1024] / 2, Bytes: data[:1024]}, impl.ErrNone)
}

// Promise 16: of all short cell lists the recogniser finishes exactly on those that are lines, with their bytes.
func TestAllShortListsAreRecognised(t *testing.T) {
	lines := 0
	for _, cells := range shortBitLists(16) {
		checkRecognised(t, cells)
		checkMissing(t, cells)
		if impl.IsLine(cells) {
			lines++
		}
	}
	if lines != 286+256 {
		t.Errorf("%d lists are lines", lines)
	}
}

// Promise 16: lines of no, one and many bytes, of all preambles, with and without idle cells before and behind.
func TestLinesAreRecognised(t *testing.T) {
	for _, data := range cellData() {
		for _, preamble := range preambles() {
			for _, pad := range append(smallPads(), [2]int64{0, 0})[:4+len(data)%6] {
				cells := bitsOfText(lineShape{pad[0], preamble, data}.lineText(int(pad[1])))
				expectScanned(t, impl.NewScan(), cells, impl.Scan{Phase: 6, Bytes: data}, impl.ErrNone)
				checkRecognised(t, cells)
				expectMissing(t, cells, nil, impl.ErrNone)
			}
		}
	}
	for _, preamble := range preambles() {
		data := mixed(mostBytes(preamble), 256, uint64(preamble)+207)
		cells := bitsOfText(lineByReference(data, preamble))
		checkRecognised(t, joined(repeated(1, 8192-len(cells)), cells))
		checkRecognised(t, joined(cells, repeated(1, 8192-len(cells))))
	}
}

// Promise 16: lines with one or a few cells changed, left out, added or cut off.
func TestChangedLinesAreRecognised(t *testing.T) {
	lines, beginnings, others := 0, 0, 0
	for i, x := range changedLines() {
		for _, cells := range changedCells(bitsOfText(x.lineText(i % 4))) {
			isBeginning := checkRecognised(t, cells)
			checkMissing(t, cells)
			switch {
			case impl.IsLine(cells):
				lines++
			case isBeginning:
				beginnings++
			default:
				others++
			}
		}
	}
	if lines < 2000 || beginnings < 1500 || others < 10000 {
		t.Errorf("%d of the changed lists are lines, %d beginnings, and %d neither", lines, beginnings, others)
	}
}

// Promise 16: lists of parts of transmissions in any order, and lines of which a few cells at any places are changed.
func TestListsOfPartsAreRecognised(t *testing.T) {
	parts := []string{"1", "0", "000", "10", "01", "11", "00", "1000000000", "1011111111", "1010101010", "0001", "01"}
	for seed := range uint64(20000) {
		var text strings.Builder
		text.WriteString([]string{"", "000", "0001", "110001"}[seed%4])
		for _, part := range mixed(1+int(seed%7), int64(len(parts)), seed+208) {
			text.WriteString(parts[part])
		}
		cells := bitsOfText(text.String() + []string{"", "01"}[seed/4%2])
		checkRecognised(t, cells)
		checkMissing(t, cells)
	}
	for seed := range uint64(5000) {
		shape := lineShape{int64(seed % 3), 3 + int64(seed%13), mixed(int(seed%7), 256, seed+209)}
		cells := bitsOfText(shape.lineText(int(seed % 4)))
		for _, at := range mixed(1+int(seed%3), int64(len(cells)), seed+210) {
			cells[at] = 1 - cells[at]
		}
		checkRecognised(t, cells)
		checkMissing(t, cells)
	}
}

// Two transmissions are no line, and the first low cell behind the first of them is the wrong one.
func TestWrongCellBehindALine(t *testing.T) {
	for between := range 12 {
		for _, data := range [][]int64{nil, {0}, {255}, {7, 250}} {
			text := lineByReference(data, 5) + strings.Repeat("1", between)
			cells := bitsOfText(text + lineByReference(data, 13))
			expectWrongCell(t, cells, int64(len(text)), impl.ErrNone)
			checkRecognised(t, cells)
		}
	}
}

// The indices have been written out by hand.
func TestKnownWrongCells(t *testing.T) {
	for _, x := range []struct {
		cells string
		wrong int64
	}{
		{"", -1}, {"1", -1}, {"0", -1}, {"00", -1}, {"01", 1}, {"001", 2}, {"0001", -1}, {"111", -1}, {"1101", 3}, {"11001", 4}, {"110001", -1},
		{strings.Repeat("0", 2) + "1", 2}, {strings.Repeat("0", 3) + "1", -1}, {strings.Repeat("0", 15) + "1", -1}, {strings.Repeat("0", 15), -1},
		{strings.Repeat("0", 16), 15}, {strings.Repeat("0", 16) + "1", 15}, {"11" + strings.Repeat("0", 17), 17}, {"000100", 5}, {"000101", -1}, {"00010", -1},
		{"00011", -1}, {"000111", 5}, {"000110", -1}, {"0001101", -1}, {"0001100000000", -1}, {"00011000000000", -1}, {"000110000000000", -1}, {"0001100000000000", 15},
		{"0001100000000001", -1}, {"000110000000010", -1}, {"0001100000000111", 15}, {"0001100000000110", -1}, {"0001011", -1}, {"0001010", 6}, {"000101110", 8}, {"00010110101", 7},
		{"0100000", 1}, {"000100" + "11111", 5}, {"000111" + "00000", 5}, {strings.Repeat("1", 8192), -1}, {strings.Repeat("1", 8191) + "0", -1}, {strings.Repeat("0", 8192), 15},
		{strings.Repeat("1", 8190) + "01", 8191}, {"000101" + strings.Repeat("1", 8185) + "0", 8191}, {"000101" + strings.Repeat("1", 8186), -1},
	} {
		expectWrongCell(t, bitsOfText(x.cells), x.wrong, impl.ErrNone)
		checkRecognised(t, bitsOfText(x.cells))
	}
}

// Preambles of all numbers of low cells: those of fewer than LeastPreamble break at the high cell behind them, and those of more
// than MaxPreamble at the low cell that is one too many.
func TestPreamblesAreRecognised(t *testing.T) {
	for preamble := int64(1); preamble < 40; preamble++ {
		want := int64(-1)
		switch {
		case preamble > 15:
			want = 2 + 15
		case preamble < 3:
			want = 2 + preamble
		}
		for _, data := range [][]int64{nil, {0}, {255}} {
			cells := bitsOfText("11" + lineByReference(data, preamble))
			expectWrongCell(t, cells, want, impl.ErrNone)
			checkRecognised(t, cells)
		}
	}
	for count, phase := range map[int]int64{2: 7, 3: 2, 15: 2, 16: 7} {
		s, code := impl.ScanCells(impl.NewScan(), joined(repeated(0, count), []int64{1}))
		expectNumber(t, "the phase behind a preamble", s.Phase, code, phase, impl.ErrNone)
	}
}

func TestNoCellListsAreRefused(t *testing.T) {
	lists := notBits()
	for _, wrong := range notCells() {
		lists = append(lists, []int64{0, 1, wrong}, []int64{wrong, 0, 1}, bitsWithWrong("000101", wrong), bitsWithWrong("000111", wrong))
	}
	for i, x := range changedLines() {
		cells := bitsOfText(x.lineText(1))
		lists = append(lists, with(cells, i%len(cells), 2), with(cells, len(cells)-1, cells[len(cells)-1]+1<<32), joined(cells, repeated(1, 8193-len(cells))))
	}
	for _, cells := range lists {
		expectWrongCell(t, cells, 0, impl.ErrInvalid)
		expectMissing(t, cells, nil, impl.ErrInvalid)
	}
}

// bitsWithWrong returns the cells of a text and a number that is no cell behind them.
func bitsWithWrong(text string, wrong int64) []int64 { return append(bitsOfText(text), wrong) }

// The missing cells have been written out by hand.
func TestKnownMissingCells(t *testing.T) {
	for _, x := range []struct{ cells, missing string }{
		{"", "000101"}, {"1", "000101"}, {"1111", "000101"}, {"0", "00101"}, {"100", "0101"}, {"00", "0101"}, {"000", "101"}, {"0000", "101"}, {strings.Repeat("0", 15), "101"},
		{"0001", "01"}, {"110001", "01"}, {"00010", "1"}, {"000101", ""}, {"0001011", ""}, {"00011", "00000000001"}, {"000110", "0000000001"}, {"0001101", "000000001"}, {"0001100", "000000001"},
		{"0001101111111", "001"}, {"00011011111111", "01"}, {"000110111111110", "1"}, {"0001101111111101", ""}, {"000110111111111", "00000000001"}, {"1000110101010101", "00000000001"},
		{strings.Repeat("1", 8192), "000101"}, {strings.Repeat("1", 8190) + "00", "0101"}, {strings.Repeat("1", 8186) + "000101", ""},
	} {
		expectMissing(t, bitsOfText(x.cells), bitsOfText(x.missing), impl.ErrNone)
		checkMissing(t, bitsOfText(x.cells))
	}
	for _, text := range []string{"01", "001", "000100", "000111", "0001010", strings.Repeat("0", 16), strings.Repeat("0", 8192), strings.Repeat("1", 8190) + "01"} {
		expectMissing(t, bitsOfText(text), nil, impl.ErrNotFound)
	}
}

// Each beginning of a line lacks some cells, and with the least of them it is a line.
func TestBeginningsOfLines(t *testing.T) {
	phases := map[int64]int{}
	for i, x := range changedLines() {
		cells := bitsOfText(x.lineText(i % 4))
		for at := range len(cells) + 1 {
			phases[checkMissing(t, cells[:at])]++
			checkRecognised(t, cells[:at])
			missing, _ := impl.CellsMissing(cells[:at])
			whole := joined(cells[:at], missing)
			if !impl.IsLine(whole) {
				t.Errorf("%s and %s are no line", textOfCells(cells[:at]), textOfCells(missing))
			}
			expectMissing(t, whole, nil, impl.ErrNone)
		}
	}
	for phase := range int64(7) {
		if phases[phase] < 30 {
			t.Errorf("%d of the beginnings end in the phase %d", phases[phase], phase)
		}
	}
	if phases[7] > 0 {
		t.Errorf("%d of the beginnings are wrong", phases[7])
	}
}

// keyOfCells returns a number that different cell lists of fewer than 63 cells do not have in common.
func keyOfCells(cells []int64) uint64 {
	key := uint64(1)
	for _, cell := range cells {
		key = key<<1 | uint64(cell)
	}
	return key
}

// Promise 16: which cells are missing is searched among all lists of at most 11 cells, the shortest and smallest first. A list for
// which there are none would need more: then no line of at most longest cells may begin with it.
func TestMissingCellsBySearch(t *testing.T) {
	const size, longest = 11, 25
	isLine, isBeginning := map[uint64]bool{}, map[uint64]bool{}
	for text := range shortLines(longest) {
		key := keyOfCells(bitsOfText(text))
		isLine[key] = true
		for ; key > 0; key >>= 1 {
			isBeginning[key] = true
		}
	}
	candidates := shortBitLists(size)
	for _, cells := range shortBitLists(12) {
		key := keyOfCells(cells)
		at := slices.IndexFunc(candidates, func(list []int64) bool { return isLine[key<<len(list)|keyOfCells(list)&(1<<len(list)-1)] })
		if (at >= 0) != isBeginning[key] {
			t.Errorf("the search finds %d for %s", at, textOfCells(cells))
		}
		if at >= 0 {
			expectMissing(t, cells, candidates[at], impl.ErrNone)
			expectWrongCell(t, cells, -1, impl.ErrNone)
			continue
		}
		expectMissing(t, cells, nil, impl.ErrNotFound)
		if wrong, _ := impl.FirstWrongCell(cells); !isBeginning[keyOfCells(cells[:wrong])] || isBeginning[keyOfCells(cells[:wrong+1])] {
			t.Errorf("FirstWrongCell %s: %d", textOfCells(cells), wrong)
		}
	}
}

// Promise 16: the same search behind lists of several bytes.
func TestMissingCellsBehindBytes(t *testing.T) {
	candidates := shortBitLists(11)
	for _, data := range [][]int64{{0, 255}, {128, 1, 77}, mixed(20, 256, 211)} {
		text := lineShape{1, 6, data}.lineText(2)
		for at := len(text) - 15; at <= len(text); at++ {
			found := slices.IndexFunc(candidates, func(list []int64) bool { return linePattern.MatchString(text[:at] + textOfCells(list)) })
			expectMissing(t, bitsOfText(text[:at]), candidates[max(found, 0)], impl.ErrNone)
			if found < 0 {
				t.Errorf("the search finds nothing for %s", text[:at])
			}
		}
		for _, wrong := range []string{text + "0", text[:len(text)-3] + "0", text[:len(text)-14] + "11"} {
			found := slices.ContainsFunc(candidates, func(list []int64) bool { return linePattern.MatchString(wrong + textOfCells(list)) })
			if code := second(impl.CellsMissing(bitsOfText(wrong))); found || code != impl.ErrNotFound {
				t.Errorf("%s: code %d, and the search finds %v", wrong, code, found)
			}
		}
	}
}

func second(_ []int64, code int64) int64 { return code }

// scanResult returns a scan and a code as a list, in which the Bytes are the memory of the scan.
func scanResult(s impl.Scan, code int64) []int64 {
	if len(s.Bytes) > 0 {
		return s.Bytes
	}
	return []int64{s.Phase, s.Count, s.Value, code}
}

// scanCalls are all functions of the chapter with two lists, the Bytes and the cells, and all else fixed.
func scanCalls() []call {
	calls := []call{
		{"FirstWrongCell", func(l [][]int64) []int64 {
			wrong, code := impl.FirstWrongCell(l[1])
			return []int64{wrong, code}
		}},
		{"CellsMissing", func(l [][]int64) []int64 { return first(impl.CellsMissing(l[1])) }},
		{"ScanCells anew", func(l [][]int64) []int64 { return scanResult(impl.ScanCells(impl.NewScan(), l[1])) }},
	}
	for _, s := range []impl.Scan{{}, {Phase: 1, Count: 15}, {Phase: 2}, {Phase: 3}, {Phase: 4, Count: 6, Value: 63}, {Phase: 4, Count: 7, Value: 3}, {Phase: 4, Count: 8}, {Phase: 5}, {Phase: 6}, {Phase: 7}, {Phase: 8}} {
		withBytes := func(l [][]int64) impl.Scan {
			return impl.Scan{Phase: s.Phase, Count: s.Count, Value: s.Value, Bytes: l[0]}
		}
		calls = append(calls, call{"IsScan " + nameOfScan(s), func(l [][]int64) []int64 { return truth(impl.IsScan(withBytes(l))) }},
			call{"IsFinished " + nameOfScan(s), func(l [][]int64) []int64 { return truth(impl.IsFinished(withBytes(l))) }},
			call{"ScanCells " + nameOfScan(s), func(l [][]int64) []int64 { return scanResult(impl.ScanCells(withBytes(l), l[1])) }})
		for _, cell := range []int64{0, 1, 2} {
			calls = append(calls, call{fmt.Sprint("StepCell ", nameOfScan(s), " ", cell), func(l [][]int64) []int64 {
				return scanResult(impl.StepCell(withBytes(l), cell))
			}})
		}
	}
	return calls
}

// scanLists are pairs of Bytes and cells for which the functions succeed and fail in different ways.
func scanLists() [][][]int64 {
	var pairs [][][]int64
	someBytes := append(validBytes(), repeated(3, 1025), []int64{4, 256})
	someCells := append(memoryLists(), []int64{}, []int64{1}, []int64{0, 0, 0, 1}, bitsOfText("1000000000"), bitsOfText("11"+lineByReference([]int64{1, 2}, 5)+"1"), bitsOfText("000111"))
	for _, bytes := range someBytes {
		for _, cells := range someCells {
			pairs = append(pairs, [][]int64{bytes, cells})
		}
	}
	for i, x := range changedLines() {
		cells := bitsOfText(x.lineText(i % 4))
		pairs = append(pairs, [][]int64{x.data, cells}, [][]int64{x.data, cells[:len(cells)/2]}, [][]int64{x.data, joined(cells, []int64{0, 2})})
	}
	return pairs
}

func TestScansLeaveMemoryAlone(t *testing.T) {
	for _, c := range scanCalls() {
		for _, pair := range scanLists() {
			checkMemory(t, c.name+" "+shortened(pair[0])+" "+shortened(pair[1]), c.run, pair...)
		}
	}
}

// The same call answers the same each time, also while others are made with the same arguments.
func TestScansAnswerTheSame(t *testing.T) {
	pairs, calls := scanLists(), scanCalls()
	answers := func() [][]int64 {
		var all [][]int64
		for _, pair := range pairs {
			for _, c := range calls {
				all = append(all, c.run(pair))
			}
		}
		return all
	}
	want := answers()
	var group sync.WaitGroup
	for range 8 {
		group.Go(func() {
			for i, got := range answers() {
				if !slices.Equal(got, want[i]) {
					t.Errorf("%s: %s, and before %s", calls[i%len(calls)].name, shortened(got), shortened(want[i]))
				}
			}
		})
	}
	group.Wait()
}
