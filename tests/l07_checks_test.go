package tests

import (
	"fmt"
	"slices"
	"testing"

	"loop.example/g00833/impl"
)

var standardCrc = impl.Crc{Width: 24, Poly: 0x5D6DCB}

// checkByReference returns the check number of a body of a kind. It does not use the program.
func checkByReference(kind int64, body []int64, id int64, s impl.State) int64 {
	bits := bitsOfBytes(body)
	if kind == 0 {
		bits = joined(bitsByReference(s), bits)
	}
	return reference(standardCrc, id, bits)
}

// closed returns a byte list with the bytes of its check number behind it, also if it is the body of no frame. It does
// not use the program.
func closed(list []int64, id int64, s impl.State) []int64 {
	number := checkByReference(list[0]/64, list, id, s)
	return joined(list, bytesByReference(bitsOfText(textOfNumber(number, 24))))
}

// sealedByReference returns the bytes of a sealed frame. It does not use the program.
func sealedByReference(f impl.Frame, id int64, s impl.State) []int64 {
	return closed(bodyByReference(f), id, s)
}

// openedByReference returns what OpenFrame returns for a byte list, a schedule number and a valid state. It does not use
// the program.
func openedByReference(list []int64, id int64, s impl.State) (impl.Frame, int64) {
	if len(list) < 4 {
		return impl.Frame{}, impl.ErrSyntax
	}
	body := list[:len(list)-3]
	if !slices.Equal(closed(body, id, s), list) {
		return impl.Frame{}, impl.ErrDamage
	}
	f, ok := frameByReference(body)
	switch {
	case !ok:
		return impl.Frame{}, impl.ErrSyntax
	case f.Kind != 0 && f.State != s:
		return impl.Frame{}, impl.ErrState
	}
	return f, impl.ErrNone
}

// sealedCase is a frame that is sealed for a schedule and a state.
type sealedCase struct {
	f  impl.Frame
	id int64
	s  impl.State
}

func (c sealedCase) name(function string) string {
	return frameName(function, c.f) + fmt.Sprint(" for ", c.id, " and ", c.s)
}

// ids returns schedule numbers, those at the ends among them.
func ids() []int64 {
	return append(mixed(20, impl.MaxId+1, 110), 0, 1, 2, 255, 256, 65536, 1<<23-1, 1<<23, impl.MaxId-1, impl.MaxId)
}

func notIds() []int64 {
	return []int64{-1, 16777216, -2, 16777217, -16777215, -16777216, 1<<25 - 1, 1 << 32, 1<<32 + 1, least, least + 1, greatest}
}

// sealedCases returns valid frames of all kinds, each of which has the state for which it is sealed if it has one.
func sealedCases() []sealedCase {
	numbers, others := ids(), states()
	var list []sealedCase
	for i, f := range frames() {
		c := sealedCase{f, numbers[i%len(numbers)], f.State}
		if f.Kind == impl.FrameNormal {
			c.s = others[i%len(others)]
		}
		list = append(list, c)
	}
	for i, f := range baseFrames() {
		for _, id := range numbers {
			list = append(list, sealedCase{f, id, []impl.State{middleState, middleState, greatestState, coldState}[i]})
		}
	}
	return list
}

// someCases returns each step-th of the sealed cases.
func someCases(step int) []sealedCase {
	var list []sealedCase
	for i, c := range sealedCases() {
		if i%step == 0 {
			list = append(list, c)
		}
	}
	return list
}

// expectKinds fails the test if it has not looked at so many cases of each kind.
func expectKinds(t *testing.T, kinds map[int64]int, fewest int) {
	t.Helper()
	for kind := range int64(4) {
		if kinds[kind] < fewest {
			t.Errorf("%d cases have the kind %d", kinds[kind], kind)
		}
	}
}

func TestConstantsOfSeals(t *testing.T) {
	expectList(t, "the constants", []int64{impl.MaxId, impl.SealBytes}, 0, []int64{16777215, 3}, 0)
}

// The check numbers have been computed by other means.
func TestKnownSeals(t *testing.T) {
	bases := baseFrames()
	for _, x := range []struct {
		c     sealedCase
		check int64
		bytes []int64
	}{
		{sealedCase{impl.Frame{}, 0, leastState}, 0, []int64{0, 0, 0, 0, 0}},
		{sealedCase{impl.Frame{}, 1, leastState}, 76838, []int64{0, 0, 1, 44, 38}},
		{sealedCase{impl.Frame{Data: []int64{5}}, 77, impl.State{Time: 300, Members: 5}}, 9253775, []int64{0, 1, 5, 141, 51, 143}},
		{sealedCase{bases[0], impl.MaxId, middleState}, 7840936, []int64{8, 1, 5, 119, 164, 168}},
		{sealedCase{impl.Frame{Request: 7}, impl.MaxId, greatestState}, 15120459, []int64{56, 0, 230, 184, 75}},
		{sealedCase{impl.Frame{Kind: impl.FrameInit, Request: 1, State: middleState}, 77, middleState}, 16220398, []int64{72, 1, 44, 18, 3, 0, 0, 0, 5, 247, 128, 238}},
		{sealedCase{impl.Frame{Kind: impl.FrameInit, Request: 1, State: middleState}, 77, greatestState}, 16220398, []int64{72, 1, 44, 18, 3, 0, 0, 0, 5, 247, 128, 238}},
		{sealedCase{impl.Frame{Kind: impl.FrameData, State: middleState, Data: []int64{9}}, 0, middleState}, 11410921, []int64{128, 1, 44, 18, 3, 0, 0, 0, 5, 1, 9, 174, 29, 233}},
		{sealedCase{bases[3], 1000000, coldState}, 4305827, []int64{192, 1, 44, 2, 3, 0, 0, 0, 4, 65, 179, 163}},
	} {
		got, code := impl.SealFrame(x.c.f, x.c.id, x.c.s)
		expectList(t, x.c.name("SealFrame"), got, code, x.bytes, impl.ErrNone)
		number, code := impl.SealNumber(x.c.f, x.c.id, x.c.s)
		expectNumber(t, x.c.name("SealNumber"), number, code, x.check, impl.ErrNone)
		expectList(t, "the reference", sealedByReference(x.c.f, x.c.id, x.c.s), 0, x.bytes, 0)
	}
}

func checkSeal(t *testing.T, c sealedCase) {
	t.Helper()
	want := sealedByReference(c.f, c.id, c.s)
	got, code := impl.SealFrame(c.f, c.id, c.s)
	expectList(t, c.name("SealFrame"), got, code, want, impl.ErrNone)
	number, code := impl.SealNumber(c.f, c.id, c.s)
	expectNumber(t, c.name("SealNumber"), number, code, numberOfBits(bitsOfBytes(want[len(want)-3:])), impl.ErrNone)
}

func TestSealsOfManyFrames(t *testing.T) {
	kinds := map[int64]int{}
	for i, c := range sealedCases() {
		checkSeal(t, c)
		kinds[c.f.Kind]++
		if i%20 == 0 {
			for _, id := range ids() {
				checkSeal(t, sealedCase{c.f, id, c.s})
			}
		}
	}
	expectKinds(t, kinds, 200)
}

// A frame may be sealed for a state that it does not have. The state is fed for normal frames alone.
func TestSealsForOtherStates(t *testing.T) {
	for _, f := range baseFrames() {
		want := sealedByReference(f, 77, leastState)
		for _, s := range states() {
			checkSeal(t, sealedCase{f, 77, s})
			got, _ := impl.SealFrame(f, 77, s)
			if isSame := slices.Equal(got, want); isSame != (f.Kind != impl.FrameNormal || s == leastState) {
				t.Errorf("%s is %s, and for the state 0 %s", sealedCase{f, 77, s}.name("SealFrame"), listText(got), listText(want))
			}
		}
	}
}

func expectSealError(t *testing.T, c sealedCase, want int64) {
	t.Helper()
	list, code := impl.SealFrame(c.f, c.id, c.s)
	expectList(t, c.name("SealFrame"), list, code, nil, want)
	number, code := impl.SealNumber(c.f, c.id, c.s)
	expectNumber(t, c.name("SealNumber"), number, code, 0, want)
}

func TestSealErrInvalid(t *testing.T) {
	for i, f := range notFrames() {
		for _, id := range []int64{0, impl.MaxId, -1, notIds()[i%len(notIds())]} {
			for _, s := range []impl.State{leastState, coldState, f.State, notStates()[i%len(notStates())]} {
				expectSealError(t, sealedCase{f, id, s}, impl.ErrInvalid)
			}
		}
	}
	for i, s := range notStates() {
		for _, f := range append(baseFrames(), frames()[i], impl.Frame{}) {
			for _, id := range []int64{0, impl.MaxId, -1, impl.MaxId + 1, notIds()[i%len(notIds())]} {
				expectSealError(t, sealedCase{f, id, s}, impl.ErrInvalid)
			}
		}
	}
}

func TestSealErrRange(t *testing.T) {
	for _, id := range notIds() {
		for _, f := range append(baseFrames(), impl.Frame{}, framesWithData()[700]) {
			for _, s := range []impl.State{leastState, greatestState, coldState, f.State} {
				expectSealError(t, sealedCase{f, id, s}, impl.ErrRange)
			}
		}
	}
}

func TestSealSize(t *testing.T) {
	datas := []int64{1023, 1024, 1 << 32, 1<<32 + 1, -1 << 32, least, least + 1, greatest - 3, greatest - 2, greatest}
	for data := int64(-40); data <= 300; data++ {
		datas = append(datas, data)
	}
	for _, data := range datas {
		for kind := range int64(4) {
			want, wantCode := sizeByReference(kind, data)+3, int64(impl.ErrNone)
			if want == 3 {
				want, wantCode = 0, impl.ErrRange
			}
			got, code := impl.SealSize(kind, data)
			expectNumber(t, fmt.Sprint("SealSize ", kind, data), got, code, want, wantCode)
		}
		for _, kind := range notKinds() {
			got, code := impl.SealSize(kind, data)
			expectNumber(t, fmt.Sprint("SealSize ", kind, data), got, code, 0, impl.ErrInvalid)
		}
	}
}

// The sizes at the ends of each kind are written out here.
func TestSealSizeAtTheEnds(t *testing.T) {
	for _, x := range [][]int64{
		{0, 0, 5, 0}, {0, 1, 6, 0}, {0, 31, 36, 0}, {0, 32, 37, 0}, {0, 33, 0, 2}, {0, -1, 0, 2},
		{1, 0, 12, 0}, {1, 1, 0, 2}, {1, -1, 0, 2},
		{2, 0, 0, 2}, {2, 1, 14, 0}, {2, 31, 44, 0}, {2, 32, 45, 0}, {2, 33, 0, 2}, {2, -1, 0, 2},
		{3, 0, 12, 0}, {3, 1, 0, 2}, {3, -1, 0, 2},
		{-1, 0, 0, 1}, {-1, 33, 0, 1}, {4, 0, 0, 1}, {4, -1, 0, 1},
	} {
		got, code := impl.SealSize(x[0], x[1])
		expectNumber(t, fmt.Sprint("SealSize ", x[:2]), got, code, x[2], x[3])
	}
}

// Each sealed frame has as many bytes as SealSize tells.
func TestSealSizeOfFrames(t *testing.T) {
	for _, c := range sealedCases() {
		list, _ := impl.SealFrame(c.f, c.id, c.s)
		got, code := impl.SealSize(c.f.Kind, int64(len(c.f.Data)))
		expectNumber(t, c.name("SealSize"), got, code, int64(len(list)), impl.ErrNone)
	}
}

func openName(list []int64, id int64, s impl.State) string {
	return fmt.Sprint("OpenFrame ", shortened(list), " of ", len(list), " bytes for ", id, " and ", s)
}

// expectOpened fails the test if OpenFrame does not return this frame and this code, or IsOpenable says something else.
func expectOpened(t *testing.T, list []int64, id int64, s impl.State, want impl.Frame, wantCode int64) {
	t.Helper()
	got, code := impl.OpenFrame(list, id, s)
	expectFrame(t, openName(list, id, s), got, code, want, wantCode)
	if impl.IsOpenable(list, id, s) != (wantCode == impl.ErrNone) {
		t.Errorf("%s: IsOpenable is %v", openName(list, id, s), wantCode != impl.ErrNone)
	}
}

// checkOpened compares OpenFrame with the reference, and returns the code of both.
func checkOpened(t *testing.T, list []int64, id int64, s impl.State) int64 {
	t.Helper()
	want, wantCode := openedByReference(list, id, s)
	expectOpened(t, list, id, s, want, wantCode)
	return wantCode
}

func expectRefusedList(t *testing.T, list []int64, id int64, s impl.State, want int64) {
	t.Helper()
	expectOpened(t, list, id, s, impl.Frame{}, want)
}

func TestOpenFrame(t *testing.T) {
	normal := []int64{0, 1, 5, 141, 51, 143}
	state := impl.State{Time: 300, Members: 5}
	expectOpened(t, normal, 77, state, impl.Frame{Data: []int64{5}}, impl.ErrNone)
	expectOpened(t, normal, 78, state, impl.Frame{}, impl.ErrDamage)
	expectOpened(t, normal, 77, impl.State{Time: 301, Members: 5}, impl.Frame{}, impl.ErrDamage)
	expectOpened(t, []int64{0, 1, 5, 141, 51, 142}, 77, state, impl.Frame{}, impl.ErrDamage)
	expectOpened(t, []int64{0, 1, 5, 143, 51, 141}, 77, state, impl.Frame{}, impl.ErrDamage)
	expectOpened(t, []int64{0, 0, 0, 0, 0}, 0, leastState, impl.Frame{}, impl.ErrNone)
	start := []int64{72, 1, 44, 18, 3, 0, 0, 0, 5, 247, 128, 238}
	expectOpened(t, start, 77, middleState, impl.Frame{Kind: impl.FrameInit, Request: 1, State: middleState}, impl.ErrNone)
	expectOpened(t, start, 77, greatestState, impl.Frame{}, impl.ErrState)
	expectOpened(t, start, 77, leastState, impl.Frame{}, impl.ErrState)
	expectOpened(t, start, 76, middleState, impl.Frame{}, impl.ErrDamage)
	expectOpened(t, start, 76, greatestState, impl.Frame{}, impl.ErrDamage)
	cold := []int64{192, 1, 44, 2, 3, 0, 0, 0, 4, 65, 179, 163}
	expectOpened(t, cold, 1000000, coldState, impl.Frame{Kind: impl.FrameCold, State: coldState}, impl.ErrNone)
	expectOpened(t, cold, 1000000, middleState, impl.Frame{}, impl.ErrState)
}

// Lists of at most SealBytes bytes are too short, whatever their bytes are. Others may be damaged.
func TestOpenFrameOfShortLists(t *testing.T) {
	for _, id := range []int64{0, 1, 0x010203, impl.MaxId} {
		for _, s := range []impl.State{leastState, middleState} {
			for _, list := range [][]int64{nil, {}, {0}, {64}, {0, 0}, {0, 0, 0}, {1, 2, 3}, {255, 255, 255}, {192, 0, 0}} {
				expectRefusedList(t, list, id, s, impl.ErrSyntax)
			}
			for head := range int64(256) {
				list := closed([]int64{head}, id, s)
				expectRefusedList(t, list, id, s, impl.ErrSyntax)
				expectRefusedList(t, with(list, 3, list[3]^1), id, s, impl.ErrDamage)
				expectRefusedList(t, with(list, 1, list[1]^128), id, s, impl.ErrDamage)
			}
		}
	}
	expectRefusedList(t, []int64{0, 0, 0, 0}, 0, leastState, impl.ErrSyntax)
	expectRefusedList(t, []int64{0, 0, 0, 0}, 1, leastState, impl.ErrDamage)
	expectRefusedList(t, []int64{0, 0, 0, 0}, 0, middleState, impl.ErrDamage)
	expectRefusedList(t, []int64{64, 0, 0, 0}, 0, leastState, impl.ErrDamage)
}

// bodiesOfNoFrame returns byte lists that are the body of no valid frame: cut or extended ones, and those with wrong heads
// or numbers of data bytes.
func bodiesOfNoFrame() [][]int64 {
	lists := [][]int64{{0}, {1, 0}, {0, 1}, {0, 33}, joined([]int64{0, 33}, repeated(5, 33)), joined([]int64{64}, repeated(0, 9)),
		joined([]int64{128}, repeated(0, 9)), joined([]int64{192}, repeated(0, 8)), joined([]int64{200}, repeated(0, 7), []int64{1}), joined([]int64{192, 0, 0, 16}, repeated(0, 4), []int64{1})}
	for i, f := range frames() {
		if i%40 != 0 {
			continue
		}
		body := bodyByReference(f)
		lists = append(lists, body[:len(body)-1], joined(body, []int64{0}), joined(body, []int64{255, 1}), with(body, 0, body[0]+1), with(body, 0, body[0]+4))
	}
	return lists
}

// Lists with a right check number that are no frames are refused for this reason; with a wrong one, they are damaged.
func TestOpenFrameOfNoBodies(t *testing.T) {
	for i, body := range bodiesOfNoFrame() {
		for k, s := range []impl.State{leastState, middleState, greatestState} {
			id := ids()[(i+k)%len(ids())]
			list := closed(body, id, s)
			expectRefusedList(t, list, id, s, impl.ErrSyntax)
			expectRefusedList(t, with(list, len(list)-1-i%3, list[len(list)-1-i%3]^1<<(i%8)), id, s, impl.ErrDamage)
			expectRefusedList(t, list, (id+1)%(impl.MaxId+1), s, impl.ErrDamage)
		}
	}
}

// The longest lists are looked at with the bits of the state in front of them, which are more than a bit list has.
func TestOpenFrameOfLongLists(t *testing.T) {
	codes := map[int64]int{}
	for _, size := range []int{4, 5, 37, 45, 46, 100, 1015, 1016, 1017, 1018, 1019, 1020, 1021, 1022, 1023, 1024} {
		for _, head := range []int64{0, 64, 128, 192} {
			for _, s := range []impl.State{leastState, middleState} {
				for _, id := range []int64{0, 1, impl.MaxId} {
					zeros := with(repeated(0, size), 0, head)
					codes[checkOpened(t, zeros, id, s)]++
					list := closed(joined([]int64{head}, mixed(size-4, 256, 111)), id, s)
					expectRefusedList(t, list, id, s, impl.ErrSyntax)
					expectRefusedList(t, with(list, size/2, list[size/2]^16), id, s, impl.ErrDamage)
					expectRefusedList(t, with(list, size-1, list[size-1]^1), id, s, impl.ErrDamage)
				}
			}
		}
	}
	if codes[impl.ErrSyntax] < 10 || codes[impl.ErrDamage] < 100 {
		t.Errorf("lists of zeros have the codes %v", codes)
	}
	expectRefusedList(t, repeated(0, maxBytes), 0, leastState, impl.ErrSyntax)
	expectRefusedList(t, repeated(0, maxBytes), 1, leastState, impl.ErrDamage)
	expectRefusedList(t, repeated(0, maxBytes), 0, impl.State{Members: 1}, impl.ErrDamage)
	for _, size := range []int{maxBytes + 1, maxBytes + 2, 2 * maxBytes, 9000} {
		for _, head := range []int64{0, 64, 128, 192} {
			expectRefusedList(t, with(repeated(0, size), 0, head), 0, leastState, impl.ErrRange)
		}
	}
}

// A state that is not valid is refused first, also for the kinds that carry their state and for lists that are too short.
func TestOpenFrameErrInvalid(t *testing.T) {
	lists := [][]int64{nil, {0, 0, 0}, {0, 0, 0, 0}, {0, 0, 0, 0, 0}, {0, 0, 0, 256, 0}, repeated(0, maxBytes), repeated(0, maxBytes+1)}
	for _, f := range baseFrames() {
		lists = append(lists, sealedByReference(f, 77, f.State))
	}
	for i, s := range notStates() {
		for _, list := range lists {
			for _, id := range []int64{0, 77, impl.MaxId, -1, impl.MaxId + 1, notIds()[i%len(notIds())]} {
				expectRefusedList(t, list, id, s, impl.ErrInvalid)
			}
		}
	}
}

func TestOpenFrameErrRange(t *testing.T) {
	for _, id := range notIds() {
		for _, list := range append(notBytes(), nil, []int64{0}, []int64{0, 0, 0}, []int64{0, 0, 0, 0}, []int64{0, 0, 0, 0, 0}, []int64{0, 1, 5, 141, 51, 143}) {
			expectRefusedList(t, list, id, leastState, impl.ErrRange)
			expectRefusedList(t, list, id, middleState, impl.ErrRange)
		}
	}
	for _, id := range []int64{0, 77, impl.MaxId} {
		for _, list := range append(notBytes(), []int64{-1}, []int64{256}, []int64{0, 0, 256}, []int64{0, 0, 0, -1}) {
			expectRefusedList(t, list, id, leastState, impl.ErrRange)
		}
	}
	for _, f := range baseFrames() {
		list := sealedByReference(f, 77, f.State)
		for index := range list {
			for _, wrong := range []int64{-1, 256, list[index] + 256, list[index] - 256, list[index] + 1<<32, least, greatest} {
				expectRefusedList(t, with(list, index, wrong), 77, f.State, impl.ErrRange)
			}
		}
	}
}

// Lists that follow no simple pattern, and changed sealed frames, are opened as the reference opens them.
func TestOpenFrameOfManyLists(t *testing.T) {
	codes := map[int64]int{}
	for i, list := range changedLists() {
		if i%7 != 0 || len(list) == 0 {
			continue
		}
		id, s := ids()[i%len(ids())], states()[i%50]
		codes[checkOpened(t, closed(list, id, s), id, s)]++
		codes[checkOpened(t, list, id, s)]++
	}
	for i, c := range someCases(5) {
		list := sealedByReference(c.f, c.id, c.s)
		codes[checkOpened(t, list, c.id, c.s)]++
		codes[checkOpened(t, list, c.id, states()[i%60])]++
		codes[checkOpened(t, list[:len(list)-1], c.id, c.s)]++
		codes[checkOpened(t, joined(list, []int64{0}), c.id, c.s)]++
		codes[checkOpened(t, with(list, 0, list[0]^64), c.id, c.s)]++
	}
	for _, code := range []int64{impl.ErrNone, impl.ErrSyntax, impl.ErrDamage, impl.ErrState} {
		if codes[code] < 200 {
			t.Errorf("the lists have the codes %v", codes)
		}
	}
}

// Promise 6: a sealed frame is opened with the same schedule and state, and what is opened is sealed as the same bytes.
func TestSealedFramesAreOpened(t *testing.T) {
	kinds := map[int64]int{}
	for _, c := range sealedCases() {
		list, code := impl.SealFrame(c.f, c.id, c.s)
		if code != impl.ErrNone {
			t.Fatalf("%s: code %d", c.name("SealFrame"), code)
		}
		expectOpened(t, list, c.id, c.s, c.f, impl.ErrNone)
		got, _ := impl.OpenFrame(list, c.id, c.s)
		again, code := impl.SealFrame(got, c.id, c.s)
		expectList(t, c.name("SealFrame of what is opened"), again, code, list, impl.ErrNone)
		kinds[c.f.Kind]++
	}
	expectKinds(t, kinds, 200)
}

// Promise 6: with another schedule number a sealed frame is damaged, whatever the state is.
func TestSealedFramesOfOtherSchedules(t *testing.T) {
	for i, c := range sealedCases() {
		list, _ := impl.SealFrame(c.f, c.id, c.s)
		numbers := []int64{c.id ^ 1, c.id ^ 1<<23, c.id ^ impl.MaxId, c.id ^ 1<<(i%24), ids()[i%7], ids()[20+i%10], c.id / 2}
		if i%50 == 0 {
			numbers = append(numbers, ids()...)
		}
		for _, id := range numbers {
			if id != c.id {
				expectRefusedList(t, list, id, c.s, impl.ErrDamage)
				expectRefusedList(t, list, id, middleState, impl.ErrDamage)
			}
		}
	}
}

// nearStates returns the states that differ from a valid one in one bit.
func nearStates(s impl.State) []impl.State {
	var list []impl.State
	bits := bitsByReference(s)
	for index := range bits {
		list = append(list, stateByReference(with(bits, index, 1-bits[index])))
	}
	return list
}

// Promise 6: with another state a normal frame is damaged, and a frame that has its state is refused for this reason.
func TestSealedFramesOfOtherStates(t *testing.T) {
	kinds := map[int64]int{}
	for i, c := range someCases(4) {
		list, _ := impl.SealFrame(c.f, c.id, c.s)
		others := append(nearStates(c.s), leastState, greatestState, middleState)
		others = append(others, mixedStates(3, uint64(i)+112)...)
		want := int64(impl.ErrState)
		if c.f.Kind == impl.FrameNormal {
			want = impl.ErrDamage
		}
		for _, s := range others {
			if s != c.s {
				expectRefusedList(t, list, c.id, s, want)
				kinds[c.f.Kind]++
			}
		}
	}
	expectKinds(t, kinds, 2000)
}

// A frame that is sealed for a state other than its own is opened with its own one alone.
func TestFramesSealedForOtherStates(t *testing.T) {
	for i, f := range frames() {
		if f.Kind == impl.FrameNormal {
			continue
		}
		id, s := ids()[i%len(ids())], states()[i%len(states())]
		list, code := impl.SealFrame(f, id, s)
		if code != impl.ErrNone {
			t.Errorf("%s: code %d", sealedCase{f, id, s}.name("SealFrame"), code)
		}
		expectOpened(t, list, id, f.State, f, impl.ErrNone)
		if s != f.State {
			expectRefusedList(t, list, id, s, impl.ErrState)
		}
	}
}

// expectWrongBitsRefused fails the test if a sealed frame with wrong bits is not refused as damaged, or its errors are
// told to be missed.
func expectWrongBitsRefused(t *testing.T, c sealedCase, bits []int64, indices ...int) {
	t.Helper()
	received := slices.Clone(bits)
	for _, index := range indices {
		received[index] = 1 - received[index]
	}
	expectRefusedList(t, bytesByReference(received), c.id, c.s, impl.ErrDamage)
	missed, code := impl.MissedErrors(c.f.Kind, c.s, c.s, onesAt(len(bits), indices...))
	expectBool(t, fmt.Sprint(c.name("MissedErrors"), indices), missed, code, false, impl.ErrNone)
}

// Promise 6: each wrong bit behind those of the kind is found, and so are pairs and triples of them.
func TestWrongBitsAreRefused(t *testing.T) {
	kinds := map[int64]int{}
	for i, c := range someCases(37) {
		list, _ := impl.SealFrame(c.f, c.id, c.s)
		bits := bitsOfBytes(list)
		for index := 2; index < len(bits); index++ {
			expectWrongBitsRefused(t, c, bits, index)
		}
		places := mixed(60, int64(len(bits)-2), uint64(i)+113)
		for k := 0; k+2 < len(places); k++ {
			indices := []int{int(places[k]) + 2, int(places[k+1]) + 2, int(places[k+2]) + 2}
			slices.Sort(indices)
			if indices = slices.Compact(indices); len(indices) == 3 {
				expectWrongBitsRefused(t, c, bits, indices...)
				expectWrongBitsRefused(t, c, bits, indices[k%3], indices[(k+1)%3])
			}
		}
		kinds[c.f.Kind]++
	}
	expectKinds(t, kinds, 6)
}

// Promise 6: in short frames of each kind all pairs of wrong bits are tried, and in the shortest one all triples.
func TestAllPairsOfWrongBitsAreRefused(t *testing.T) {
	cases := []sealedCase{{impl.Frame{}, 0x123456, middleState}}
	for _, f := range baseFrames()[1:] {
		cases = append(cases, sealedCase{f, 77, f.State})
	}
	for _, c := range cases {
		list, _ := impl.SealFrame(c.f, c.id, c.s)
		bits := bitsOfBytes(list)
		for a := 2; a < len(bits); a++ {
			for b := a + 1; b < len(bits); b++ {
				expectWrongBitsRefused(t, c, bits, a, b)
				for d := b + 1; d < len(bits) && c.f.Kind == impl.FrameNormal; d++ {
					expectWrongBitsRefused(t, c, bits, a, b, d)
				}
			}
		}
	}
}

// Promise 6: the errors next to one another, at the ends of the longest frames and in the check number, are tried in all
// lengths.
func TestWrongBitsInAllLengths(t *testing.T) {
	for _, kind := range []int64{impl.FrameNormal, impl.FrameData} {
		for size := 1; size <= 32; size++ {
			f := impl.Frame{Kind: kind, Data: mixed(size, 256, uint64(size)+114)}
			if kind == impl.FrameData {
				f.State = middleState
			}
			c := sealedCase{f, int64(size) * 524287, middleState}
			list, _ := impl.SealFrame(c.f, c.id, c.s)
			bits := bitsOfBytes(list)
			last := len(bits) - 1
			for _, indices := range [][]int{{2}, {last}, {2, last}, {2, 3, last}, {2, last - 1, last}, {last - 2, last - 1, last}, {2, 3, 4}, {2, last / 2, last}, {last - 24}, {last - 23}, {last - 24, last - 23}, {8, 15}} {
				expectWrongBitsRefused(t, c, bits, indices...)
			}
		}
	}
}

// missedErrorsByReference returns what MissedErrors returns for valid states and one of the four kinds. It does not use the
// program.
func missedErrorsByReference(kind int64, a impl.State, b impl.State, errors []int64) (bool, int64) {
	size := len(errors)
	if size < 32 || size%8 != 0 || size > 8192 || kind == 0 && size > 8128 {
		return false, impl.ErrLimit
	}
	isNoBit := func(element int64) bool { return element != 0 && element != 1 }
	if errors[0] != 0 || errors[1] != 0 || slices.ContainsFunc(errors, isNoBit) {
		return false, impl.ErrLimit
	}
	bits := errors
	if kind == 0 {
		bits = joined(sumOf(bitsByReference(a), bitsByReference(b)), errors)
	}
	return reference(standardCrc, 0, bits) == 0, impl.ErrNone
}

// sumOf returns the exclusive or of two bit lists of one length. It does not use the program.
func sumOf(a []int64, b []int64) []int64 {
	sum := make([]int64, len(a))
	for i := range sum {
		sum[i] = (a[i] + b[i]) % 2
	}
	return sum
}

// checkMissed compares MissedErrors with the reference, and returns what both say.
func checkMissed(t *testing.T, kind int64, a impl.State, b impl.State, errors []int64) (bool, int64) {
	t.Helper()
	want, wantCode := missedErrorsByReference(kind, a, b, errors)
	got, code := impl.MissedErrors(kind, a, b, errors)
	expectBool(t, missedName(kind, a, b, errors), got, code, want, wantCode)
	return want, wantCode
}

func missedName(kind int64, a impl.State, b impl.State, errors []int64) string {
	return fmt.Sprint("MissedErrors ", kind, a, b, " with ", len(errors), " bits ", shortened(errors))
}

// statePairs returns pairs of states that are equal, that differ in one bit, in all bits and otherwise.
func statePairs() [][]impl.State {
	pairs := [][]impl.State{{leastState, leastState}, {middleState, middleState}, {greatestState, greatestState}, {leastState, greatestState}, {middleState, coldState}, {coldState, middleState}}
	for _, near := range nearStates(middleState) {
		pairs = append(pairs, []impl.State{middleState, near})
	}
	some := mixedStates(20, 115)
	for i := range len(some) - 1 {
		pairs = append(pairs, some[i:i+2])
	}
	return pairs
}

// missedLists returns errors of several lengths that are missed by the code: the multiples of its polynomial.
func missedLists() [][]int64 {
	var lists [][]int64
	pattern := bitsOfText("1" + textOfNumber(standardCrc.Poly, 24))
	for _, size := range []int{32, 40, 48, 96, 296, 360, 8128, 8192} {
		lists = append(lists, repeated(0, size))
		for _, place := range []int{2, 3, 7, size/2 - 12, size - 26, size - 25} {
			if place >= 2 && place+25 <= size {
				lists = append(lists, joined(repeated(0, place), pattern, repeated(0, size-place-25)))
			}
		}
		for seed := range uint64(4) {
			lists = append(lists, sealed(standardCrc, 0, joined([]int64{0, 0}, mixed(size-26, 2, seed+116))))
		}
	}
	return lists
}

func TestMissedErrorsOfEqualStates(t *testing.T) {
	missed := 0
	for _, errors := range missedLists() {
		for kind := range int64(4) {
			if kind == impl.FrameNormal && len(errors) > 8128 {
				continue
			}
			got, code := impl.MissedErrors(kind, middleState, middleState, errors)
			expectBool(t, missedName(kind, middleState, middleState, errors), got, code, true, impl.ErrNone)
			missed++
			for _, index := range []int{2, len(errors) / 2, len(errors) - 1} {
				other := with(errors, index, 1-errors[index])
				got, code := impl.MissedErrors(kind, middleState, middleState, other)
				expectBool(t, missedName(kind, middleState, middleState, other), got, code, false, impl.ErrNone)
			}
		}
	}
	if missed < 100 {
		t.Errorf("%d errors are missed", missed)
	}
}

// compensating returns errors that are missed by the code behind other bits. They are 0 except in the check number.
func compensating(bits []int64, size int) []int64 {
	zeros := repeated(0, size-24)
	return joined(zeros, bitsOfText(textOfNumber(reference(standardCrc, 0, joined(bits, zeros)), 24)))
}

// Other states count for normal frames alone, for which errors may make up for them.
func TestMissedErrorsOfOtherStates(t *testing.T) {
	for i, pair := range statePairs() {
		a, b := pair[0], pair[1]
		differences := sumOf(bitsByReference(a), bitsByReference(b))
		for _, size := range []int{32, 40, 48, 8 * (6 + i%32), 8128} {
			zeros, made := repeated(0, size), compensating(differences, size)
			for kind := range int64(4) {
				isNormal := kind == impl.FrameNormal
				got, code := impl.MissedErrors(kind, a, b, zeros)
				expectBool(t, missedName(kind, a, b, zeros), got, code, !isNormal || a == b, impl.ErrNone)
				got, code = impl.MissedErrors(kind, a, b, made)
				expectBool(t, missedName(kind, a, b, made), got, code, isNormal || a == b, impl.ErrNone)
				got, code = impl.MissedErrors(kind, b, a, made)
				expectBool(t, missedName(kind, b, a, made), got, code, isNormal || a == b, impl.ErrNone)
			}
		}
	}
}

func TestMissedErrorsOfManyLists(t *testing.T) {
	lists := append(missedLists(), notBits()...)
	for size := range 100 {
		lists = append(lists, repeated(0, size), repeated(1, size), mixed(size, 2, uint64(size)+117))
		for _, index := range []int{0, 1, 2, size / 2, size - 2, size - 1} {
			if index >= 0 && index < size {
				lists = append(lists, onesAt(size, index), with(repeated(0, size), index, 2))
			}
		}
	}
	for _, size := range []int{1000, 8119, 8120, 8127, 8128, 8129, 8136, 8144, 8184, 8191, 8192, 8193, 8200, 8256, 16384} {
		lists = append(lists, repeated(0, size), onesAt(size, 2), onesAt(size, size-1), onesAt(size, 0))
	}
	truths, codes := map[bool]int{}, map[int64]int{}
	for _, errors := range lists {
		for kind := range int64(4) {
			for _, pair := range [][]impl.State{{leastState, leastState}, {greatestState, greatestState}, {middleState, coldState}} {
				missed, code := checkMissed(t, kind, pair[0], pair[1], errors)
				codes[code]++
				truths[missed]++
			}
		}
	}
	if truths[true] < 300 || codes[impl.ErrNone] < 1000 || codes[impl.ErrLimit] < 1000 {
		t.Errorf("the lists have the codes %v, and are missed: %v", codes, truths)
	}
}

// The lengths at the ends are written out here.
func TestMissedErrorsErrLimit(t *testing.T) {
	for _, x := range []struct {
		size           int
		normal, others int64
	}{
		{0, 3, 3}, {8, 3, 3}, {24, 3, 3}, {31, 3, 3}, {32, 0, 0}, {33, 3, 3}, {39, 3, 3}, {40, 0, 0}, {44, 3, 3}, {360, 0, 0}, {8120, 0, 0}, {8127, 3, 3},
		{8128, 0, 0}, {8129, 3, 3}, {8136, 3, 0}, {8184, 3, 0}, {8191, 3, 3}, {8192, 3, 0}, {8193, 3, 3}, {8200, 3, 3}, {16384, 3, 3},
	} {
		for kind := range int64(4) {
			want := x.others
			if kind == impl.FrameNormal {
				want = x.normal
			}
			zeros := repeated(0, x.size)
			got, code := impl.MissedErrors(kind, middleState, middleState, zeros)
			expectBool(t, missedName(kind, middleState, middleState, zeros), got, code, want == 0, want)
		}
	}
	for kind := range int64(4) {
		for _, size := range []int{32, 40, 48, 360} {
			for _, errors := range [][]int64{onesAt(size, 0), onesAt(size, 1), onesAt(size, 0, 1), repeated(1, size), onesAt(size, 1, size-1)} {
				got, code := impl.MissedErrors(kind, leastState, leastState, errors)
				expectBool(t, missedName(kind, leastState, leastState, errors), got, code, false, impl.ErrLimit)
			}
			for index := range size {
				for _, wrong := range []int64{-1, 2, 256, 1 << 32, 1<<32 + 1, least, greatest} {
					errors := with(repeated(0, size), index, wrong)
					got, code := impl.MissedErrors(kind, leastState, leastState, errors)
					expectBool(t, missedName(kind, leastState, leastState, errors), got, code, false, impl.ErrLimit)
				}
			}
		}
	}
}

// A state that is not valid is refused first, also for the kinds that do not use it, then a kind that is none.
func TestMissedErrorsOrder(t *testing.T) {
	lists := [][]int64{nil, repeated(0, 31), repeated(0, 32), onesAt(40, 0), {2}, repeated(0, 8192), repeated(0, 8193)}
	for _, errors := range lists {
		for i, s := range notStates() {
			for _, kind := range []int64{0, 1, 2, 3, -1, 4, notKinds()[i%len(notKinds())]} {
				for _, pair := range [][]impl.State{{s, s}, {s, middleState}, {middleState, s}} {
					got, code := impl.MissedErrors(kind, pair[0], pair[1], errors)
					expectBool(t, missedName(kind, pair[0], pair[1], errors), got, code, false, impl.ErrInvalid)
				}
			}
		}
		for _, kind := range notKinds() {
			got, code := impl.MissedErrors(kind, middleState, coldState, errors)
			expectBool(t, missedName(kind, middleState, coldState, errors), got, code, false, impl.ErrRange)
		}
	}
}

// errorsOf returns errors for a sealed frame of some bits that is sealed with a state and opened with another one: those
// that are found, and those that are missed for a normal frame or for the others.
func errorsOf(size int, a impl.State, b impl.State, seed uint64) [][]int64 {
	start := joined([]int64{0, 0}, mixed(size-26, 2, seed))
	differences := sumOf(bitsByReference(a), bitsByReference(b))
	behind := reference(standardCrc, 0, joined(differences, start))
	return [][]int64{
		repeated(0, size), onesAt(size, 2+int(seed)%(size-2)), joined(start, mixed(24, 2, seed+1)),
		sealed(standardCrc, 0, start), joined(start, bitsOfText(textOfNumber(behind, 24))), compensating(differences, size),
	}
}

// Errors are missed exactly if a frame that is received with them is not found to be damaged.
func TestMissedErrorsAreOpened(t *testing.T) {
	truths := map[bool]int{}
	for i, c := range someCases(9) {
		list := sealedByReference(c.f, c.id, c.s)
		bits := bitsOfBytes(list)
		for k, b := range []impl.State{c.s, nearStates(c.s)[i%64], mixedStates(1, uint64(i)+118)[0]} {
			for _, errors := range errorsOf(len(bits), c.s, b, uint64(i*3+k)+119) {
				received := bytesByReference(sumOf(bits, errors))
				_, openCode := impl.OpenFrame(received, c.id, b)
				missed, code := impl.MissedErrors(c.f.Kind, c.s, b, errors)
				expectBool(t, c.name("MissedErrors ")+" opened as "+listText(received), missed, code, openCode != impl.ErrDamage, impl.ErrNone)
				truths[missed]++
			}
		}
	}
	if truths[true] < 500 || truths[false] < 500 {
		t.Errorf("the errors are missed: %v", truths)
	}
}

func TestSealsLeaveMemoryAlone(t *testing.T) {
	datas := append(memoryLists(), []int64{}, []int64{5}, []int64{256}, mixed(32, 256, 120), mixed(33, 256, 121))
	for _, base := range baseFrames() {
		for _, data := range datas {
			for _, id := range []int64{77, -1} {
				name := frameName("SealFrame", withData(base, data))
				checkMemory(t, name, func(l [][]int64) []int64 {
					return first(impl.SealFrame(withData(base, l[0]), id, middleState))
				}, data)
				checkMemory(t, name+" and SealNumber", func(l [][]int64) []int64 {
					number, code := impl.SealNumber(withData(base, l[0]), id, middleState)
					return []int64{number, code}
				}, data)
			}
		}
	}
	lists := append(memoryLists(), []int64{}, []int64{0, 0, 0, 0, 0}, []int64{0, 1, 5, 141, 51, 143}, closed([]int64{0, 2, 5}, 77, middleState), repeated(0, maxBytes))
	for _, c := range someCases(60) {
		lists = append(lists, sealedByReference(c.f, 77, c.s), sealedByReference(c.f, 77, middleState))
	}
	for _, list := range lists {
		for _, s := range []impl.State{middleState, {Time: 300, Members: 5}, {Time: -1}} {
			checkMemory(t, openName(list, 77, s), func(l [][]int64) []int64 {
				f, _ := impl.OpenFrame(l[0], 77, s)
				return f.Data
			}, list)
			checkMemory(t, openName(list, 77, s)+", IsOpenable", func(l [][]int64) []int64 { return truth(impl.IsOpenable(l[0], 77, s)) }, list)
		}
	}
	for _, errors := range append(memoryLists(), missedLists()...) {
		for kind := int64(-1); kind <= 4; kind++ {
			checkMemory(t, missedName(kind, middleState, coldState, errors), func(l [][]int64) []int64 {
				missed, code := impl.MissedErrors(kind, middleState, coldState, l[0])
				return append(truth(missed), code)
			}, errors)
		}
	}
}

// What is written into sealed bytes, or into a frame that has been opened, changes no later result.
func TestSealsKeepNothing(t *testing.T) {
	for _, f := range baseFrames() {
		s := f.State
		list, _ := impl.SealFrame(f, 77, s)
		want := slices.Clone(list)
		got, _ := impl.OpenFrame(list, 77, s)
		fill(list[:cap(list)], mark)
		expectFrame(t, frameName("OpenFrame", f), got, impl.ErrNone, f, impl.ErrNone)
		fill(got.Data[:cap(got.Data)], mark)
		again, code := impl.SealFrame(f, 77, s)
		expectList(t, frameName("SealFrame again", f), again, code, want, impl.ErrNone)
		expectOpened(t, again, 77, s, f, impl.ErrNone)
	}
}
