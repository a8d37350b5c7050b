package tests

import (
	"fmt"
	"regexp"
	"slices"
	"strings"
	"testing"

	"loop.example/g00833/impl"
)

// descriptorPattern are the bits of the bytes of a descriptor: Node, Kind, Size, Duration and Change.
var descriptorPattern = regexp.MustCompile(`\A([01]{8})([01]{2})([01]{6})([01]{16})0000000([01])\z`)

// lineByReference returns the cells of the transmission of some bytes with a preamble as a text: the start of the
// transmission and of the frame, the bytes, and the end of the frame. It does not use the program.
func lineByReference(bytes []int64, preamble int64) string {
	var line strings.Builder
	line.WriteString(strings.Repeat("0", int(preamble)) + "1")
	for _, value := range bytes {
		line.WriteString("10" + textOfNumber(value, 8))
	}
	return line.String() + "01"
}

// cellsByReference returns the number of cells of a transmission, or 0 if no frame of a kind has so many data bytes. It
// does not use the program.
func cellsByReference(kind int64, size int64) int64 {
	body := sizeByReference(kind, size)
	if body == 0 {
		return 0
	}
	return int64(len(lineByReference(repeated(0, int(body)+3), 8)))
}

// isDescriptorByReference reports whether a descriptor is valid. It does not use the program.
func isDescriptorByReference(d impl.Descriptor) bool {
	if d.Node < 0 || d.Node > 31 || d.Duration < 0 || d.Duration > 1000 {
		return false
	}
	cells := cellsByReference(d.Kind, d.Size)
	return cells > 0 && d.Duration-cells >= 20 && (d.Kind != 3 || !d.Change)
}

// fitsByReference reports whether a frame fits a descriptor, and both are valid. It does not use the program.
func fitsByReference(d impl.Descriptor, f impl.Frame) bool {
	if f.Request != 0 && !d.Change {
		return false
	}
	return f.Kind == d.Kind && int64(len(f.Data)) == d.Size && isFrameByReference(f) && isDescriptorByReference(d)
}

// bytesOfDescriptor returns the bytes of a valid descriptor. It does not use the program.
func bytesOfDescriptor(d impl.Descriptor) []int64 {
	text := textOfNumber(d.Node, 8) + textOfNumber(d.Kind, 2) + textOfNumber(d.Size, 6) + textOfNumber(d.Duration, 16)
	return joined(bytesByReference(bitsOfText(text)), truth(d.Change))
}

// descriptorByReference returns the valid descriptor with these bytes, and whether there is one. It does not use the
// program.
func descriptorByReference(list []int64) (impl.Descriptor, bool) {
	var text strings.Builder
	for _, value := range list {
		if value < 0 || value > 255 {
			return impl.Descriptor{}, false
		}
		text.WriteString(textOfNumber(value, 8))
	}
	match := descriptorPattern.FindStringSubmatch(text.String())
	if match == nil {
		return impl.Descriptor{}, false
	}
	number := func(i int) int64 { return numberOfBits(bitsOfText(match[i])) }
	d := impl.Descriptor{Node: number(1), Kind: number(2), Size: number(3), Duration: number(4), Change: match[5] == "1"}
	if !isDescriptorByReference(d) {
		return impl.Descriptor{}, false
	}
	return d, true
}

// emptyByReference returns what EmptyFrame returns for a valid descriptor. It does not use the program.
func emptyByReference(d impl.Descriptor, s impl.State) (impl.Frame, int64) {
	f := impl.Frame{Kind: d.Kind, Data: repeated(0, int(d.Size))}
	if d.Kind != 0 {
		f.State = s
	}
	if !isFrameByReference(f) {
		return impl.Frame{}, impl.ErrRange
	}
	return f, impl.ErrNone
}

// shape is a kind with a number of data bytes.
type shape struct{ kind, size int64 }

// shapes returns all kinds with all numbers of data bytes that they may have.
func shapes() []shape {
	var list []shape
	for size := range int64(33) {
		list = append(list, shape{impl.FrameNormal, size})
		if size > 0 {
			list = append(list, shape{impl.FrameData, size})
		}
	}
	return append(list, shape{impl.FrameInit, 0}, shape{impl.FrameCold, 0})
}

// leastDuration returns the least Duration of a valid descriptor of a shape, if there is one.
func leastDuration(x shape) int64 { return cellsByReference(x.kind, x.size) + 20 }

// changesOf returns the values that Change of a valid descriptor of a kind may have.
func changesOf(kind int64) []bool {
	if kind == impl.FrameCold {
		return []bool{false}
	}
	return []bool{false, true}
}

// allDescriptors returns the valid descriptors of all shapes, with all Durations and values of Change. Their nodes take
// turns.
func allDescriptors() []impl.Descriptor {
	var list []impl.Descriptor
	for _, x := range shapes() {
		for _, change := range changesOf(x.kind) {
			for duration := leastDuration(x); duration <= 1000; duration++ {
				node := int64(len(list)) % 32
				list = append(list, impl.Descriptor{Node: node, Kind: x.kind, Size: x.size, Duration: duration, Change: change})
			}
		}
	}
	return list
}

// someDescriptors returns valid descriptors of all shapes, with the Durations at their ends and at the ends of a byte.
func someDescriptors() []impl.Descriptor {
	var list []impl.Descriptor
	for _, d := range allDescriptors() {
		start := leastDuration(shape{d.Kind, d.Size})
		if slices.Contains([]int64{start, start + 1, 255, 256, 257, 511, 512, 768, 999, 1000}, d.Duration) {
			list = append(list, d)
		}
	}
	return list
}

// baseDescriptors returns one valid descriptor of each kind, in the order of the kinds.
func baseDescriptors() []impl.Descriptor {
	return []impl.Descriptor{
		{Node: 1, Kind: impl.FrameNormal, Size: 1, Duration: 100, Change: true},
		{Node: 0, Kind: impl.FrameInit, Size: 0, Duration: 200, Change: true},
		{Node: 31, Kind: impl.FrameData, Size: 3, Duration: 300, Change: false},
		{Node: 5, Kind: impl.FrameCold, Size: 0, Duration: 1000, Change: false},
	}
}

func withNode(d impl.Descriptor, node int64) impl.Descriptor {
	d.Node = node
	return d
}

func withShape(d impl.Descriptor, kind int64, size int64) impl.Descriptor {
	d.Kind, d.Size = kind, size
	return d
}

func withDuration(d impl.Descriptor, duration int64) impl.Descriptor {
	d.Duration = duration
	return d
}

func withChange(d impl.Descriptor, change bool) impl.Descriptor {
	d.Change = change
	return d
}

// notSizes returns numbers of data bytes that no frame of a kind has.
func notSizes(kind int64) []int64 {
	list := []int64{-1, 33, -32, 34, 63, 64, 65, 255, 256, 1 << 32, 1<<32 + 1, -1 << 32, 1 << 61, 1 << 62, least, least + 1, greatest - 11, greatest}
	switch kind {
	case impl.FrameInit, impl.FrameCold:
		return append(list, 1, 2, 31, 32)
	case impl.FrameData:
		return append(list, 0)
	}
	return list
}

// notDescriptors returns descriptors with one thing that is wrong, and some with several.
func notDescriptors() []impl.Descriptor {
	list := []impl.Descriptor{{}, {Node: -1, Kind: -1, Size: -1, Duration: -1}, {Node: 32, Kind: 4, Size: 33, Duration: 1001, Change: true}}
	for _, base := range baseDescriptors() {
		for _, node := range notNodes() {
			list = append(list, withNode(base, node))
		}
		for _, kind := range notKinds() {
			list = append(list, withShape(base, kind, base.Size), withShape(base, kind, 0), withShape(withChange(base, false), kind, 1))
		}
		for _, size := range notSizes(base.Kind) {
			list = append(list, withShape(base, base.Kind, size), withShape(withDuration(base, 1000), base.Kind, size))
		}
	}
	for _, x := range shapes() {
		d := impl.Descriptor{Node: x.size % 32, Kind: x.kind, Size: x.size}
		for _, duration := range []int64{-1, 0, 1, 20, leastDuration(x) - 21, leastDuration(x) - 20, leastDuration(x) - 1, 1001, 1002, 1024, 1256, 1 << 16, 1 << 32, 1<<32 + 1000, -1000, least, least + 1000, greatest} {
			list = append(list, withDuration(d, duration))
		}
	}
	for duration := int64(140); duration <= 1000; duration++ {
		list = append(list, impl.Descriptor{Node: duration % 32, Kind: impl.FrameCold, Duration: duration, Change: true})
	}
	return list
}

// expectDescriptor fails the test if DescriptorFromBytes does not return this descriptor and this code. It is called so
// often that the call is named only in a failure.
func expectDescriptor(t *testing.T, list []int64, want impl.Descriptor, wantCode int64) {
	t.Helper()
	if got, code := impl.DescriptorFromBytes(list); got != want || code != wantCode {
		t.Errorf("DescriptorFromBytes %s: %v, code %d, want %v, code %d", shortened(list), got, code, want, wantCode)
	}
}

// expectDescriptorBytes fails the test if DescriptorToBytes does not return these bytes for a valid descriptor.
func expectDescriptorBytes(t *testing.T, d impl.Descriptor, want []int64) {
	t.Helper()
	if got, code := impl.DescriptorToBytes(d); code != impl.ErrNone || !slices.Equal(got, want) {
		t.Errorf("DescriptorToBytes %v: %s, code %d, want %s", d, shortened(got), code, listText(want))
	}
}

// checkDescriptor compares DescriptorFromBytes of a list with the reference, and reports whether it has a descriptor.
func checkDescriptor(t *testing.T, list []int64) bool {
	t.Helper()
	want, ok := descriptorByReference(list)
	if !ok {
		expectDescriptor(t, list, impl.Descriptor{}, impl.ErrSyntax)
		return false
	}
	expectDescriptor(t, list, want, impl.ErrNone)
	return true
}

func expectValid(t *testing.T, d impl.Descriptor, want bool) {
	t.Helper()
	if got := impl.IsDescriptor(d); got != want {
		t.Errorf("IsDescriptor %v is %v", d, got)
	}
}

// expectFits fails the test if FitsDescriptor does not say what is expected.
func expectFits(t *testing.T, d impl.Descriptor, f impl.Frame, want bool) {
	t.Helper()
	if got := impl.FitsDescriptor(d, f); got != want {
		t.Errorf("FitsDescriptor %v %s is %v", d, frameName("", f), got)
	}
}

func TestConstantsOfDescriptors(t *testing.T) {
	got := []int64{impl.MaxDuration, impl.LeastPause, impl.DescriptorBytes}
	expectList(t, "the constants", got, 0, []int64{1000, 20, 5}, 0)
}

func TestIsDescriptor(t *testing.T) {
	for _, x := range []struct {
		d    impl.Descriptor
		want bool
	}{
		{impl.Descriptor{}, false},
		{impl.Descriptor{Node: 0, Kind: impl.FrameNormal, Size: 0, Duration: 81}, true},
		{impl.Descriptor{Node: 0, Kind: impl.FrameNormal, Size: 0, Duration: 80}, false},
		{impl.Descriptor{Node: 0, Kind: impl.FrameNormal, Size: 0, Duration: 1000, Change: true}, true},
		{impl.Descriptor{Node: 0, Kind: impl.FrameNormal, Size: 0, Duration: 1001, Change: true}, false},
		{impl.Descriptor{Node: -1, Kind: impl.FrameNormal, Size: 0, Duration: 81}, false},
		{impl.Descriptor{Node: 31, Kind: impl.FrameNormal, Size: 32, Duration: 401, Change: true}, true},
		{impl.Descriptor{Node: 31, Kind: impl.FrameNormal, Size: 32, Duration: 400, Change: true}, false},
		{impl.Descriptor{Node: 32, Kind: impl.FrameNormal, Size: 32, Duration: 401, Change: true}, false},
		{impl.Descriptor{Node: 31, Kind: impl.FrameNormal, Size: 31, Duration: 391}, true},
		{impl.Descriptor{Node: 31, Kind: impl.FrameNormal, Size: 33, Duration: 1000}, false},
		{impl.Descriptor{Node: 31, Kind: impl.FrameNormal, Size: -1, Duration: 1000}, false},
		{impl.Descriptor{Node: 7, Kind: impl.FrameInit, Size: 0, Duration: 151}, true},
		{impl.Descriptor{Node: 7, Kind: impl.FrameInit, Size: 0, Duration: 151, Change: true}, true},
		{impl.Descriptor{Node: 7, Kind: impl.FrameInit, Size: 0, Duration: 150}, false},
		{impl.Descriptor{Node: 7, Kind: impl.FrameInit, Size: 1, Duration: 1000}, false},
		{impl.Descriptor{Node: 7, Kind: impl.FrameInit, Size: -1, Duration: 1000}, false},
		{impl.Descriptor{Node: 7, Kind: impl.FrameData, Size: 1, Duration: 171, Change: true}, true},
		{impl.Descriptor{Node: 7, Kind: impl.FrameData, Size: 1, Duration: 170, Change: true}, false},
		{impl.Descriptor{Node: 7, Kind: impl.FrameData, Size: 2, Duration: 181}, true},
		{impl.Descriptor{Node: 7, Kind: impl.FrameData, Size: 0, Duration: 1000}, false},
		{impl.Descriptor{Node: 7, Kind: impl.FrameData, Size: 31, Duration: 471}, true},
		{impl.Descriptor{Node: 7, Kind: impl.FrameData, Size: 32, Duration: 481}, true},
		{impl.Descriptor{Node: 7, Kind: impl.FrameData, Size: 32, Duration: 480}, false},
		{impl.Descriptor{Node: 7, Kind: impl.FrameData, Size: 33, Duration: 1000}, false},
		{impl.Descriptor{Node: 7, Kind: impl.FrameCold, Size: 0, Duration: 151}, true},
		{impl.Descriptor{Node: 7, Kind: impl.FrameCold, Size: 0, Duration: 150}, false},
		{impl.Descriptor{Node: 7, Kind: impl.FrameCold, Size: 0, Duration: 151, Change: true}, false},
		{impl.Descriptor{Node: 7, Kind: impl.FrameCold, Size: 1, Duration: 1000}, false},
		{impl.Descriptor{Node: 7, Kind: -1, Size: 0, Duration: 1000}, false},
		{impl.Descriptor{Node: 7, Kind: 4, Size: 0, Duration: 1000}, false},
		{impl.Descriptor{Node: 7, Kind: impl.FrameNormal, Size: 0, Duration: 0}, false},
		{impl.Descriptor{Node: 7, Kind: impl.FrameNormal, Size: 0, Duration: -1}, false},
	} {
		expectValid(t, x.d, x.want)
	}
}

func TestIsDescriptorOfManyDescriptors(t *testing.T) {
	for _, d := range allDescriptors() {
		expectValid(t, d, true)
	}
	for _, d := range someDescriptors() {
		for node := range int64(32) {
			expectValid(t, withNode(d, node), true)
		}
		for _, node := range notNodes() {
			expectValid(t, withNode(d, node), false)
		}
	}
	for _, d := range notDescriptors() {
		expectValid(t, d, false)
	}
}

// All nodes, kinds, numbers of data bytes, Durations and values of Change are tried with one another, at their ends and
// behind them.
func TestIsDescriptorOfAllCombinations(t *testing.T) {
	valid := map[int64]int{}
	for _, node := range []int64{-1, 0, 31, 32} {
		for kind := int64(-2); kind <= 5; kind++ {
			for size := int64(-2); size <= 35; size++ {
				start := leastDuration(shape{kind, size})
				for _, duration := range []int64{-1, 0, 80, 81, start - 1, start, start + 1, 150, 151, 480, 481, 999, 1000, 1001} {
					for _, change := range []bool{false, true} {
						d := impl.Descriptor{Node: node, Kind: kind, Size: size, Duration: duration, Change: change}
						want := isDescriptorByReference(d)
						expectValid(t, d, want)
						if want {
							valid[kind]++
						}
					}
				}
			}
		}
	}
	if valid[0] < 500 || valid[1] < 16 || valid[2] < 500 || valid[3] < 8 || len(valid) != 4 {
		t.Errorf("so many descriptors of each kind are valid: %v", valid)
	}
}

// Promise 7: a descriptor of each kind is fitted by frames of its kind and size, and by no others.
func TestFitsDescriptor(t *testing.T) {
	bases, frames := baseDescriptors(), baseFrames()
	for i, f := range frames {
		for k, d := range bases {
			expectFits(t, withChange(d, d.Kind != impl.FrameCold), f, i == k)
			expectFits(t, withChange(d, false), withRequest(f, 0), i == k)
			expectFits(t, withChange(d, false), f, i == k && f.Request == 0)
		}
	}
	normal := impl.Descriptor{Node: 1, Kind: impl.FrameNormal, Size: 1, Duration: 100, Change: true}
	for _, x := range []struct {
		d    impl.Descriptor
		f    impl.Frame
		want bool
	}{
		{normal, impl.Frame{Data: []int64{0}}, true},
		{normal, impl.Frame{Data: []int64{255}, Request: 7}, true},
		{normal, impl.Frame{Data: []int64{255}, Request: 8}, false},
		{normal, impl.Frame{Data: []int64{255}, Request: -1}, false},
		{normal, impl.Frame{Data: []int64{256}}, false},
		{normal, impl.Frame{Data: nil}, false},
		{normal, impl.Frame{Data: []int64{0, 0}}, false},
		{normal, impl.Frame{Data: []int64{0}, State: coldState}, false},
		{normal, impl.Frame{Kind: impl.FrameData, Data: []int64{0}, State: coldState}, false},
		{withChange(normal, false), impl.Frame{Data: []int64{0}}, true},
		{withChange(normal, false), impl.Frame{Data: []int64{0}, Request: 1}, false},
		{withDuration(normal, 90), impl.Frame{Data: []int64{0}}, false},
		{withNode(normal, 32), impl.Frame{Data: []int64{0}}, false},
		{impl.Descriptor{Duration: 81}, impl.Frame{}, true},
		{impl.Descriptor{Duration: 81}, impl.Frame{Data: []int64{}}, true},
		{impl.Descriptor{}, impl.Frame{}, false},
		{bases[1], impl.Frame{Kind: impl.FrameInit, State: impl.State{Mode: 16}}, false},
		{bases[1], impl.Frame{Kind: impl.FrameCold, State: coldState}, false},
		{bases[3], impl.Frame{Kind: impl.FrameInit, State: coldState}, false},
		{bases[3], impl.Frame{Kind: impl.FrameCold, State: impl.State{Members: 3}}, false},
		{bases[3], impl.Frame{Kind: impl.FrameCold, Request: 1, State: coldState}, false},
		{withChange(bases[3], true), impl.Frame{Kind: impl.FrameCold, State: coldState}, false},
		{withShape(bases[3], 4, 0), impl.Frame{Kind: 4, State: coldState}, false},
	} {
		expectFits(t, x.d, x.f, x.want)
	}
}

// fittingDescriptors returns valid descriptors of all shapes, for frames that may ask for a change and for others.
func fittingDescriptors() []impl.Descriptor {
	var list []impl.Descriptor
	for i, x := range shapes() {
		for _, change := range changesOf(x.kind) {
			list = append(list, impl.Descriptor{Node: int64(i) % 32, Kind: x.kind, Size: x.size, Duration: leastDuration(x) + int64(i*7), Change: change})
		}
	}
	return list
}

// Promise 7: FitsDescriptor is true exactly if both are valid, kind and number of data bytes agree, and the frame asks for
// no change unless it may.
func TestFitsDescriptorOfManyFrames(t *testing.T) {
	fitting := map[int64]int{}
	others := 0
	descriptors := fittingDescriptors()
	for _, f := range append(frames(), notFrames()...) {
		isValid := isFrameByReference(f)
		for _, d := range descriptors {
			want := isValid && f.Kind == d.Kind && int64(len(f.Data)) == d.Size && (f.Request == 0 || d.Change)
			expectFits(t, d, f, want)
			if want {
				fitting[f.Kind]++
			} else {
				others++
			}
		}
	}
	expectKinds(t, fitting, 100)
	if others < 100000 {
		t.Errorf("%d frames do not fit", others)
	}
}

// Promise 7: what fits has the kind and the size of a descriptor that is valid; others are compared with the reference.
func TestFitsDescriptorOfOtherDescriptors(t *testing.T) {
	list := append(baseFrames(), impl.Frame{}, impl.Frame{Kind: 4}, impl.Frame{Data: repeated(0, 32)}, impl.Frame{Data: repeated(0, 33)})
	for _, base := range baseFrames() {
		list = append(list, withRequest(base, 0), withRequest(base, 7), withData(base, []int64{0}), withData(base, nil))
	}
	for _, d := range notDescriptors() {
		for _, f := range append(list, withKind(impl.Frame{State: coldState}, d.Kind)) {
			expectFits(t, d, f, false)
		}
	}
	fitting := map[int64]int{}
	for _, d := range someDescriptors() {
		for _, f := range append(list, withData(withKind(impl.Frame{}, d.Kind), repeated(9, int(d.Size)))) {
			want := fitsByReference(d, f)
			expectFits(t, d, f, want)
			if want {
				fitting[d.Kind]++
			}
		}
	}
	expectKinds(t, fitting, 5)
}

func TestCellsNeeded(t *testing.T) {
	for _, x := range [][]int64{
		{0, 0, 61, 0}, {0, 1, 71, 0}, {0, 31, 371, 0}, {0, 32, 381, 0}, {0, 33, 0, 2}, {0, -1, 0, 2},
		{1, 0, 131, 0}, {1, 1, 0, 2}, {1, -1, 0, 2},
		{2, 0, 0, 2}, {2, 1, 151, 0}, {2, 31, 451, 0}, {2, 32, 461, 0}, {2, 33, 0, 2}, {2, -1, 0, 2},
		{3, 0, 131, 0}, {3, 1, 0, 2}, {3, -1, 0, 2},
		{-1, 0, 0, 1}, {-1, 33, 0, 1}, {4, 0, 0, 1}, {4, -1, 0, 1},
	} {
		got, code := impl.CellsNeeded(x[0], x[1])
		expectNumber(t, fmt.Sprint("CellsNeeded ", x[:2]), got, code, x[2], x[3])
	}
}

// A kind that is none is refused first, whatever the number of data bytes is.
func TestCellsNeededOfManySizes(t *testing.T) {
	for kind := range int64(4) {
		for size := int64(-40); size <= 300; size++ {
			want, wantCode := cellsByReference(kind, size), int64(impl.ErrNone)
			if want == 0 {
				wantCode = impl.ErrRange
			}
			got, code := impl.CellsNeeded(kind, size)
			expectNumber(t, fmt.Sprint("CellsNeeded ", kind, size), got, code, want, wantCode)
		}
		for _, size := range notSizes(kind) {
			got, code := impl.CellsNeeded(kind, size)
			expectNumber(t, fmt.Sprint("CellsNeeded ", kind, size), got, code, 0, impl.ErrRange)
		}
	}
	for _, kind := range notKinds() {
		for _, size := range joined(rising(34), notSizes(kind)) {
			got, code := impl.CellsNeeded(kind, size)
			expectNumber(t, fmt.Sprint("CellsNeeded ", kind, size), got, code, 0, impl.ErrInvalid)
		}
	}
}

func TestPauseOf(t *testing.T) {
	for _, x := range []struct {
		d    impl.Descriptor
		want int64
	}{
		{impl.Descriptor{Node: 1, Kind: impl.FrameNormal, Size: 1, Duration: 100, Change: true}, 29},
		{impl.Descriptor{Kind: impl.FrameNormal, Size: 0, Duration: 81}, 20},
		{impl.Descriptor{Kind: impl.FrameNormal, Size: 0, Duration: 1000}, 939},
		{impl.Descriptor{Kind: impl.FrameInit, Size: 0, Duration: 152}, 21},
		{impl.Descriptor{Kind: impl.FrameData, Size: 32, Duration: 481}, 20},
		{impl.Descriptor{Kind: impl.FrameData, Size: 32, Duration: 1000}, 539},
		{impl.Descriptor{Kind: impl.FrameCold, Size: 0, Duration: 200}, 69},
	} {
		got, code := impl.PauseOf(x.d)
		expectNumber(t, fmt.Sprint("PauseOf ", x.d), got, code, x.want, impl.ErrNone)
	}
	for _, d := range notDescriptors() {
		got, code := impl.PauseOf(d)
		expectNumber(t, fmt.Sprint("PauseOf ", d), got, code, 0, impl.ErrInvalid)
	}
}

// Promise 7: the pause and the transmission together last as long as the slot, and the pause is long enough.
func TestPausesAndCellsAddUp(t *testing.T) {
	for _, d := range allDescriptors() {
		pause, code := impl.PauseOf(d)
		cells, cellsCode := impl.CellsNeeded(d.Kind, d.Size)
		if code != impl.ErrNone || cellsCode != impl.ErrNone || pause+cells != d.Duration || pause < impl.LeastPause {
			t.Errorf("%v has %d cells, code %d, and the pause %d, code %d", d, cells, cellsCode, pause, code)
		}
	}
}

func TestDescriptorBytes(t *testing.T) {
	for _, x := range []struct {
		d     impl.Descriptor
		bytes []int64
	}{
		{impl.Descriptor{Node: 1, Kind: impl.FrameNormal, Size: 1, Duration: 100, Change: true}, []int64{1, 1, 0, 100, 1}},
		{impl.Descriptor{Node: 0, Kind: impl.FrameNormal, Size: 0, Duration: 81}, []int64{0, 0, 0, 81, 0}},
		{impl.Descriptor{Node: 31, Kind: impl.FrameNormal, Size: 32, Duration: 1000, Change: true}, []int64{31, 32, 3, 232, 1}},
		{impl.Descriptor{Node: 2, Kind: impl.FrameNormal, Size: 2, Duration: 255}, []int64{2, 2, 0, 255, 0}},
		{impl.Descriptor{Node: 2, Kind: impl.FrameNormal, Size: 2, Duration: 256}, []int64{2, 2, 1, 0, 0}},
		{impl.Descriptor{Node: 9, Kind: impl.FrameInit, Size: 0, Duration: 151, Change: true}, []int64{9, 64, 0, 151, 1}},
		{impl.Descriptor{Node: 16, Kind: impl.FrameData, Size: 1, Duration: 300}, []int64{16, 129, 1, 44, 0}},
		{impl.Descriptor{Node: 16, Kind: impl.FrameData, Size: 32, Duration: 481, Change: true}, []int64{16, 160, 1, 225, 1}},
		{impl.Descriptor{Node: 30, Kind: impl.FrameCold, Size: 0, Duration: 999}, []int64{30, 192, 3, 231, 0}},
	} {
		expectDescriptorBytes(t, x.d, x.bytes)
		expectDescriptor(t, x.bytes, x.d, impl.ErrNone)
	}
}

func TestDescriptorToBytesErrors(t *testing.T) {
	for _, d := range notDescriptors() {
		got, code := impl.DescriptorToBytes(d)
		expectList(t, fmt.Sprint("DescriptorToBytes ", d), got, code, nil, impl.ErrInvalid)
	}
}

func TestDescriptorFromBytesOfOtherLists(t *testing.T) {
	for _, list := range [][]int64{
		nil, {}, {1}, {1, 1, 0, 100}, {1, 1, 0, 100, 1, 0}, {1, 1, 0, 100, 1, 1}, {0, 1, 1, 0, 100, 1}, {1, 0, 100, 1}, {0, 0, 0, 0, 0},
		{1, 1, 0, 100, 2}, {1, 1, 0, 100, 3}, {1, 1, 0, 100, 128}, {1, 1, 0, 100, 129}, {1, 1, 0, 100, 254}, {1, 1, 0, 100, 255}, {1, 1, 0, 100, 256}, {1, 1, 0, 100, 257}, {1, 1, 0, 100, -1},
		{32, 1, 0, 100, 1}, {33, 1, 0, 100, 1}, {255, 1, 0, 100, 1}, {-1, 1, 0, 100, 1}, {256, 1, 0, 100, 1}, {257, 1, 0, 100, 1},
		{1, 33, 3, 232, 1}, {1, 63, 3, 232, 1}, {1, 65, 3, 232, 1}, {1, 96, 3, 232, 1}, {1, 128, 3, 232, 1}, {1, 161, 3, 232, 1}, {1, 191, 3, 232, 1}, {1, 193, 3, 232, 0}, {1, 255, 3, 232, 0},
		{1, -1, 3, 232, 0}, {1, -64, 3, 232, 0}, {1, 256, 3, 232, 0}, {1, 257, 3, 232, 0}, {1, 320, 3, 232, 0},
		{1, 192, 3, 232, 1}, {1, 1, 0, 90, 1}, {1, 1, 0, 0, 1}, {1, 1, 3, 233, 1}, {1, 1, 3, 255, 1}, {1, 1, 4, 0, 1}, {1, 1, 255, 255, 1},
		{1, 1, -1, 356, 1}, {1, 1, 0, 256, 1}, {1, 1, 0, 356, 1}, {1, 1, 1, -1, 1}, {1, 1, 1, -156, 1}, {1, 1, 4, -24, 1}, {1, 1, 1 << 56, 100, 1}, {1, 1, 1 << 24, 100, 1}, {1, 1, 1<<56 + 1, 0, 1}, {1, 1, -1 << 55, 100, 1},
		repeated(0, 10), repeated(1, 1024), repeated(1, 1025), repeated(1, 8193), {least, least, least, least, least}, {greatest, greatest, greatest, greatest, greatest},
	} {
		expectDescriptor(t, list, impl.Descriptor{}, impl.ErrSyntax)
	}
}

// The bytes of valid descriptors that are cut, extended or changed in one element, also to what is no byte.
func TestDescriptorFromBytesOfChangedBytes(t *testing.T) {
	kept := 0
	for i, d := range someDescriptors() {
		bytes := bytesOfDescriptor(d)
		for size := range bytes {
			expectDescriptor(t, bytes[:size], impl.Descriptor{}, impl.ErrSyntax)
			expectDescriptor(t, bytes[size+1:], impl.Descriptor{}, impl.ErrSyntax)
		}
		for _, more := range [][]int64{{0}, {1}, {255}, {-1}, bytes} {
			expectDescriptor(t, joined(bytes, more), impl.Descriptor{}, impl.ErrSyntax)
			expectDescriptor(t, joined(more, bytes), impl.Descriptor{}, impl.ErrSyntax)
		}
		for index, value := range bytes {
			for _, wrong := range []int64{-1, 256, value + 256, value - 256, value + 1<<32, value - 1<<32, value + 1<<56, least + value, greatest} {
				expectDescriptor(t, with(bytes, index, wrong), impl.Descriptor{}, impl.ErrSyntax)
			}
			for _, other := range append(mixed(4, 256, uint64(i*5+index)+130), value+1, value-1, value^1, 0, 1, 255) {
				if checkDescriptor(t, with(bytes, index, other)) {
					kept++
				}
			}
		}
		// The Duration is kept if what its first byte loses is added to the second one.
		for _, moved := range []int64{1, -1, 2, 3, 1 << 48} {
			list := with(with(bytes, 2, bytes[2]-moved), 3, bytes[3]+moved*256)
			expectDescriptor(t, list, impl.Descriptor{}, impl.ErrSyntax)
		}
	}
	if kept < 1000 {
		t.Errorf("%d of the changed bytes are those of a descriptor", kept)
	}
}

// Promise 1, descriptors: every valid one is recovered from its bytes, which are the same as the reference's.
func TestDescriptorsAreRecovered(t *testing.T) {
	kinds := map[int64]int{}
	check := func(d impl.Descriptor) {
		bytes, code := impl.DescriptorToBytes(d)
		if code != impl.ErrNone || !slices.Equal(bytes, bytesOfDescriptor(d)) {
			t.Errorf("DescriptorToBytes %v: %s, code %d", d, shortened(bytes), code)
		}
		expectDescriptor(t, bytes, d, impl.ErrNone)
		kinds[d.Kind]++
	}
	for _, d := range allDescriptors() {
		check(d)
	}
	for _, d := range someDescriptors() {
		for node := range int64(32) {
			check(withNode(d, node))
		}
	}
	expectKinds(t, kinds, 850)
}

// Promise 1, descriptors: a list of five bytes that is read is what is written for its descriptor. All second bytes are
// tried, all Durations up to those behind the bounds, and other bytes that take turns.
func TestReadDescriptorsHaveTheirBytes(t *testing.T) {
	kinds, others := map[int64]int{}, 0
	check := func(list []int64) {
		d, code := impl.DescriptorFromBytes(list)
		if code != impl.ErrNone {
			if d != (impl.Descriptor{}) || code != impl.ErrSyntax {
				t.Errorf("DescriptorFromBytes %s: %v, code %d", listText(list), d, code)
			}
			others++
			return
		}
		expectValid(t, d, true)
		expectDescriptorBytes(t, d, list)
		kinds[d.Kind]++
	}
	for second := range int64(256) {
		for duration := range int64(1280) {
			for fifth := range int64(3) {
				node := (second + duration*7) % 32
				check([]int64{node, second, duration / 256, duration % 256, fifth})
			}
		}
	}
	for seed := range uint64(20000) {
		check(mixed(5, 256, seed*5+131))
		list := mixed(5, 5, seed*5+132)
		check([]int64{list[0] * 8, list[1]*64 + list[2]*8, list[3], int64(seed) * 13 % 256, list[4] % 2})
	}
	expectKinds(t, kinds, 850)
	if others < 100000 {
		t.Errorf("%d lists are refused", others)
	}
}

// The same kinds, sizes and Durations are read as the reference reads them, at the ends of each.
func TestDescriptorFromBytesOfManyLists(t *testing.T) {
	durations := []int64{0, 1, 80, 81, 150, 151, 170, 171, 255, 256, 400, 401, 480, 481, 511, 512, 999, 1000, 1001, 1023, 1024, 65535}
	kinds := map[int64]int{}
	for second := range int64(256) {
		for i, duration := range durations {
			for _, node := range []int64{0, 31, 32, int64(i), 255} {
				for fifth := range int64(3) {
					list := []int64{node, second, duration / 256, duration % 256, fifth}
					if checkDescriptor(t, list) {
						kinds[second/64]++
					}
				}
			}
		}
	}
	expectKinds(t, kinds, 20)
}

// All first and all fifth bytes are tried.
func TestDescriptorFromBytesOfAllNodesAndChanges(t *testing.T) {
	for value := range int64(256) {
		for _, d := range baseDescriptors() {
			bytes := bytesOfDescriptor(d)
			if got := checkDescriptor(t, with(bytes, 0, value)); got != (value <= 31) {
				t.Errorf("%v with the node %d has bytes: %v", d, value, got)
			}
			isChange := value == 0 || value == 1 && d.Kind != impl.FrameCold
			if got := checkDescriptor(t, with(bytes, 4, value)); got != isChange {
				t.Errorf("%v with the fifth byte %d has bytes: %v", d, value, got)
			}
		}
	}
}

func emptyName(d impl.Descriptor, s impl.State) string { return fmt.Sprint("EmptyFrame ", d, s) }

func expectEmpty(t *testing.T, d impl.Descriptor, s impl.State, want impl.Frame, wantCode int64) {
	t.Helper()
	got, code := impl.EmptyFrame(d, s)
	expectFrame(t, emptyName(d, s), got, code, want, wantCode)
}

func TestEmptyFrame(t *testing.T) {
	bases := baseDescriptors()
	normal, start, data, cold := bases[0], bases[1], bases[2], bases[3]
	wrong := impl.State{Mode: 16}
	for _, s := range []impl.State{leastState, middleState, greatestState, coldState, wrong} {
		expectEmpty(t, normal, s, impl.Frame{Data: []int64{0}}, impl.ErrNone)
		expectEmpty(t, impl.Descriptor{Duration: 81}, s, impl.Frame{}, impl.ErrNone)
		expectEmpty(t, withShape(withDuration(normal, 500), 0, 32), s, impl.Frame{Data: repeated(0, 32)}, impl.ErrNone)
	}
	for _, s := range []impl.State{leastState, middleState, greatestState, coldState} {
		expectEmpty(t, start, s, impl.Frame{Kind: impl.FrameInit, State: s}, impl.ErrNone)
		expectEmpty(t, data, s, impl.Frame{Kind: impl.FrameData, State: s, Data: repeated(0, 3)}, impl.ErrNone)
	}
	expectEmpty(t, start, wrong, impl.Frame{}, impl.ErrRange)
	expectEmpty(t, data, wrong, impl.Frame{}, impl.ErrRange)
	expectEmpty(t, cold, wrong, impl.Frame{}, impl.ErrRange)
	expectEmpty(t, cold, coldState, impl.Frame{Kind: impl.FrameCold, State: coldState}, impl.ErrNone)
	expectEmpty(t, cold, impl.State{Members: 1 << 31}, impl.Frame{Kind: impl.FrameCold, State: impl.State{Members: 1 << 31}}, impl.ErrNone)
	for _, s := range []impl.State{leastState, greatestState, middleState, {Members: 3}, {Mode: 1, Members: 1}, {Members: 1 << 32}, {Time: -1, Members: 1}} {
		expectEmpty(t, cold, s, impl.Frame{}, impl.ErrRange)
	}
}

// States that are valid for the kind, for other kinds alone, and for none are compared with the reference.
func TestEmptyFrameOfManyStates(t *testing.T) {
	codes := map[shape]int{}
	descriptors := append(baseDescriptors(), impl.Descriptor{Duration: 81}, impl.Descriptor{Kind: impl.FrameData, Size: 32, Duration: 481, Change: true})
	for _, s := range slices.Concat(states(), coldStates(), notStates()) {
		for _, d := range descriptors {
			want, wantCode := emptyByReference(d, s)
			expectEmpty(t, d, s, want, wantCode)
			codes[shape{d.Kind, wantCode}]++
		}
	}
	for kind := int64(1); kind < 4; kind++ {
		if codes[shape{kind, impl.ErrNone}] < 100 || codes[shape{kind, impl.ErrRange}] < 100 {
			t.Errorf("the kinds have the codes %v", codes)
		}
	}
	if codes[shape{impl.FrameNormal, impl.ErrRange}] != 0 {
		t.Errorf("normal frames have the codes %v", codes)
	}
}

// A descriptor that is not valid is refused first, whatever the state is.
func TestEmptyFrameErrInvalid(t *testing.T) {
	wrong := notStates()
	for i, d := range notDescriptors() {
		for _, s := range []impl.State{leastState, middleState, coldState, wrong[i%len(wrong)]} {
			expectEmpty(t, d, s, impl.Frame{}, impl.ErrInvalid)
		}
	}
}

// Promise 7: the empty frame fits its descriptor, and its sealed bytes on the line take the cells that are needed.
func TestEmptyFramesFit(t *testing.T) {
	kinds := map[int64]int{}
	for i, d := range someDescriptors() {
		s := coldStates()[i%40]
		f, code := impl.EmptyFrame(d, s)
		if code != impl.ErrNone || f.Request != 0 || !slices.Equal(f.Data, repeated(0, int(d.Size))) {
			t.Errorf("%s: %v, code %d", emptyName(d, s), f, code)
		}
		if !fitsByReference(d, f) {
			t.Errorf("%s: %v does not fit", emptyName(d, s), f)
		}
		expectFits(t, d, f, true)
		sealed, code := impl.SealFrame(f, int64(i), s)
		if code != impl.ErrNone {
			t.Errorf("%s: the code of %v is %d", emptyName(d, s), f, code)
		}
		cells, code := impl.CellsNeeded(d.Kind, d.Size)
		expectNumber(t, emptyName(d, s)+", its cells", cells, code, int64(len(lineByReference(sealed, 8))), impl.ErrNone)
		pause, code := impl.PauseOf(d)
		expectNumber(t, emptyName(d, s)+", the pause", pause, code, d.Duration-cells, impl.ErrNone)
		kinds[d.Kind]++
	}
	expectKinds(t, kinds, 6)
}

// Promise 7: what EmptyFrame returns with ErrNone fits, whatever the state is.
func TestEmptyFramesOfManyStatesFit(t *testing.T) {
	kinds := map[int64]int{}
	for _, s := range slices.Concat(states(), coldStates(), notStates()) {
		for _, d := range append(fittingDescriptors()[:8], baseDescriptors()...) {
			f, code := impl.EmptyFrame(d, s)
			if code != impl.ErrNone {
				continue
			}
			expectFits(t, d, f, true)
			expectFits(t, d, withRequest(f, 1), d.Change)
			kinds[d.Kind]++
		}
	}
	expectKinds(t, kinds, 100)
}

// descriptorFields returns the fields of a descriptor as a list.
func descriptorFields(d impl.Descriptor) []int64 {
	return joined([]int64{d.Node, d.Kind, d.Size, d.Duration}, truth(d.Change))
}

func TestDescriptorsLeaveMemoryAlone(t *testing.T) {
	descriptors := append(baseDescriptors(), impl.Descriptor{}, impl.Descriptor{Duration: 81}, withShape(withDuration(baseDescriptors()[0], 500), 0, 32))
	for _, d := range descriptors {
		checkMemory(t, fmt.Sprint("DescriptorToBytes ", d), func(_ [][]int64) []int64 { return first(impl.DescriptorToBytes(d)) })
		for _, s := range []impl.State{leastState, coldState, {Mode: 16}} {
			checkMemory(t, emptyName(d, s), func(_ [][]int64) []int64 {
				f, _ := impl.EmptyFrame(d, s)
				return f.Data
			})
		}
		datas := append(memoryLists(), []int64{}, []int64{5}, []int64{256}, []int64{1, 2, 3}, mixed(32, 256, 133), mixed(33, 256, 134))
		for _, data := range datas {
			for _, base := range baseFrames() {
				checkMemory(t, frameName(fmt.Sprint("FitsDescriptor ", d), withData(base, data)), func(l [][]int64) []int64 {
					return truth(impl.FitsDescriptor(d, withData(base, l[0])))
				}, data)
			}
		}
	}
	lists := append(memoryLists(), []int64{}, []int64{1, 1, 0, 100, 1}, []int64{1, 1, 0, 100, 2}, []int64{1, 1, 0, 100}, []int64{1, 1, 0, 100, 1, 0}, []int64{1, -1, 0, 100, 1})
	for _, list := range lists {
		checkMemory(t, "DescriptorFromBytes "+shortened(list), func(l [][]int64) []int64 {
			d, code := impl.DescriptorFromBytes(l[0])
			return append(descriptorFields(d), code)
		}, list)
	}
}

// What is written into the bytes of a descriptor, or into an empty frame, changes no later result.
func TestDescriptorsKeepNothing(t *testing.T) {
	for _, d := range baseDescriptors() {
		bytes, _ := impl.DescriptorToBytes(d)
		want := slices.Clone(bytes)
		got, _ := impl.DescriptorFromBytes(bytes)
		fill(bytes[:cap(bytes)], mark)
		if got != d {
			t.Errorf("%v changes with its bytes", got)
		}
		expectDescriptorBytes(t, d, want)
		f, _ := impl.EmptyFrame(d, coldState)
		fill(f.Data[:cap(f.Data)], mark)
		wanted, code := emptyByReference(d, coldState)
		expectEmpty(t, d, coldState, wanted, code)
	}
}
