package tests

import (
	"fmt"
	"regexp"
	"slices"
	"strings"
	"testing"

	"loop.example/g00833/impl"
)

// bodyPatterns are the bits of the bodies of each kind: the request, the state, the number of data bytes and these bytes.
var bodyPatterns = []*regexp.Regexp{
	regexp.MustCompile(`\A00([01]{3})000()([01]{8})((?:[01]{8})*)\z`),
	regexp.MustCompile(`\A01([01]{3})000([01]{64})()()\z`),
	regexp.MustCompile(`\A10([01]{3})000([01]{64})([01]{8})((?:[01]{8})*)\z`),
	regexp.MustCompile(`\A11(000)000([01]{64})()()\z`),
}

// isFrameByReference reports whether a frame is valid. It does not use the program.
func isFrameByReference(f impl.Frame) bool {
	isNoByte := func(element int64) bool { return element < 0 || element > 255 }
	if f.Request < 0 || f.Request > 7 || slices.ContainsFunc(f.Data, isNoByte) {
		return false
	}
	size, zero, valid := len(f.Data), f.State == impl.State{}, true
	for i, value := range fieldsOf(f.State) {
		valid = valid && value >= 0 && value <= stateFields[i].greatest
	}
	switch f.Kind {
	case 0:
		return zero && size <= 32
	case 1:
		return valid && size == 0
	case 2:
		return valid && size >= 1 && size <= 32
	case 3:
		return valid && size == 0 && f.Request == 0 && f.State.Mode == 0 && len(membersByReference(f.State.Members)) == 1
	}
	return false
}

// bytesByReference returns the bytes with these bits. It does not use the program.
func bytesByReference(bits []int64) []int64 {
	var bytes []int64
	for chunk := range slices.Chunk(bits, 8) {
		bytes = append(bytes, numberOfBits(chunk))
	}
	return bytes
}

// bodyByReference returns the body of a valid frame. It does not use the program.
func bodyByReference(f impl.Frame) []int64 {
	bits := bitsOfText(textOfNumber(f.Kind, 2) + textOfNumber(f.Request, 3) + "000")
	if f.Kind != 0 {
		bits = joined(bits, bitsByReference(f.State))
	}
	body := bytesByReference(bits)
	if f.Kind == 0 || f.Kind == 2 {
		body = joined(body, []int64{int64(len(f.Data))}, f.Data)
	}
	return body
}

// stateByReference returns the state with these bits, none of them for the zero value. It does not use the program.
func stateByReference(bits []int64) impl.State {
	fields := make([]int64, len(stateFields))
	for i, f := range stateFields {
		if len(bits) > 0 {
			fields[i], bits = numberOfBits(bits[:f.width]), bits[f.width:]
		}
	}
	return stateOf(fields)
}

// frameByReference returns the valid frame with a byte list as its body, and whether there is one. It does not use the
// program.
func frameByReference(list []int64) (impl.Frame, bool) {
	var text strings.Builder
	for _, value := range list {
		text.WriteString(textOfNumber(value, 8))
	}
	for kind, pattern := range bodyPatterns {
		match := pattern.FindStringSubmatch(text.String())
		if match == nil {
			continue
		}
		f := impl.Frame{Kind: int64(kind), Request: numberOfBits(bitsOfText(match[1])), State: stateByReference(bitsOfText(match[2])), Data: bytesByReference(bitsOfText(match[4]))}
		isCounted := match[3] == "" || match[3] == textOfNumber(int64(len(f.Data)), 8)
		if isCounted && isFrameByReference(f) {
			return f, true
		}
	}
	return impl.Frame{}, false
}

func areEqualFrames(a impl.Frame, b impl.Frame) bool {
	return a.Kind == b.Kind && a.Request == b.Request && a.State == b.State && slices.Equal(a.Data, b.Data)
}

// expectFrame fails the test if a call did not return this frame and this code.
func expectFrame(t *testing.T, call string, got impl.Frame, code int64, want impl.Frame, wantCode int64) {
	t.Helper()
	if code != wantCode || !areEqualFrames(got, want) {
		t.Errorf("%s: %v, code %d, want %v, code %d", call, got, code, want, wantCode)
	}
}

// frameName names a call with a frame in a failure.
func frameName(function string, f impl.Frame) string {
	return fmt.Sprint(function, " {", f.Kind, " ", f.Request, " ", f.State, " ", shortened(f.Data), "}")
}

// coldStates returns states that a cold frame may have.
func coldStates() []impl.State {
	var list []impl.State
	for _, s := range append(mixedStates(32, 90), leastState, greatestState, middleState) {
		for _, node := range []int64{0, 1, 15, 16, 30, 31, s.Slot % 32} {
			list = append(list, impl.State{Time: s.Time, Round: s.Round, Slot: s.Slot, Members: 1 << node})
		}
	}
	for node := range 32 {
		list = append(list, impl.State{Members: 1 << node})
	}
	return list
}

// framesWithData returns frames of the two kinds that have data, with each number of data bytes and each request.
func framesWithData() []impl.Frame {
	var list []impl.Frame
	for size := range 33 {
		for request := range int64(8) {
			s := mixedStates(1, uint64(size)*8+uint64(request)+91)[0]
			for _, data := range [][]int64{mixed(size, 256, uint64(size)*8+uint64(request)+92), repeated(0, size), repeated(255, size), repeated(int64(size), size)} {
				list = append(list, impl.Frame{Kind: impl.FrameNormal, Request: request, Data: data})
				if size > 0 {
					list = append(list, impl.Frame{Kind: impl.FrameData, Request: request, State: s, Data: data}, impl.Frame{Kind: impl.FrameData, Request: request, Data: data})
				}
			}
		}
	}
	return list
}

// frames returns valid frames of all kinds.
func frames() []impl.Frame {
	list := append(framesWithData(), impl.Frame{}, impl.Frame{Data: []int64{}})
	for i, s := range states() {
		request := int64(i % 8)
		list = append(list,
			impl.Frame{Kind: impl.FrameInit, Request: request, State: s},
			impl.Frame{Kind: impl.FrameInit, Request: 7 - request, State: s, Data: []int64{}},
			impl.Frame{Kind: impl.FrameData, Request: request, State: s, Data: mixed(1+i%32, 256, uint64(i)+93)})
	}
	for request := range int64(8) {
		for _, s := range []impl.State{leastState, greatestState, middleState} {
			list = append(list, impl.Frame{Kind: impl.FrameInit, Request: request, State: s})
		}
	}
	for _, s := range coldStates() {
		list = append(list, impl.Frame{Kind: impl.FrameCold, State: s})
	}
	return list
}

var coldState = impl.State{Time: 300, Round: 2, Slot: 3, Members: 4}

// baseFrames returns one valid frame of each kind, in the order of the kinds. Without its request, each is valid as well.
func baseFrames() []impl.Frame {
	return []impl.Frame{
		{Kind: impl.FrameNormal, Request: 1, Data: []int64{5}},
		{Kind: impl.FrameInit, Request: 2, State: middleState},
		{Kind: impl.FrameData, Request: 3, State: greatestState, Data: []int64{7, 0, 255}},
		{Kind: impl.FrameCold, State: coldState},
	}
}

func notKinds() []int64 {
	return []int64{-1, 4, -2, -4, 5, 7, 8, 64, 128, 192, 256, 1 << 32, 1<<32 + 1, 1 << 56, 1 << 58, 1<<58 + 2, 1 << 62, least, least + 3, greatest}
}

func notRequests() []int64 {
	return []int64{-1, 8, -7, -8, 9, 15, 16, 255, 1 << 32, 1<<32 + 1, 1 << 61, 1<<61 + 1, least, least + 1, greatest}
}

func withKind(f impl.Frame, kind int64) impl.Frame {
	f.Kind = kind
	return f
}

func withRequest(f impl.Frame, request int64) impl.Frame {
	f.Request = request
	return f
}

func withState(f impl.Frame, s impl.State) impl.Frame {
	f.State = s
	return f
}

func withData(f impl.Frame, data []int64) impl.Frame {
	f.Data = data
	return f
}

// framesOfWrongData returns frames that are wrong in their data alone.
func framesOfWrongData() []impl.Frame {
	bases := baseFrames()
	normal, cold := bases[impl.FrameNormal], bases[impl.FrameCold]
	start, data := bases[impl.FrameInit], bases[impl.FrameData]
	list := []impl.Frame{withData(data, nil), withData(data, []int64{}), withData(data, []int64{})}
	for _, bytes := range [][]int64{{0}, {5}, {1, 0}, repeated(0, 8), repeated(1, 32), {-1}, {256}} {
		list = append(list, withData(start, bytes), withData(cold, bytes))
	}
	for _, size := range []int{33, 34, 64, 65, 255, 256, 257, 1023, 1024, 1025, 9000} {
		for _, bytes := range [][]int64{repeated(0, size), mixed(size, 256, 94)} {
			list = append(list, withData(normal, bytes), withData(data, bytes), withData(start, bytes), withData(cold, bytes))
		}
	}
	for _, wrong := range []int64{-1, 256, -255, -256, 257, 1 << 32, 1<<32 + 5, least, least + 5, greatest} {
		for _, size := range []int{1, 2, 3, 31, 32} {
			for index := range size {
				bytes := with(mixed(size, 256, 95), index, wrong)
				list = append(list, withData(normal, bytes), withData(data, bytes))
			}
		}
	}
	return list
}

// framesOfWrongStates returns frames that are wrong in their states alone.
func framesOfWrongStates() []impl.Frame {
	bases := baseFrames()
	normal, cold := bases[impl.FrameNormal], bases[impl.FrameCold]
	start, data := bases[impl.FrameInit], bases[impl.FrameData]
	var list []impl.Frame
	for _, s := range notStates() {
		list = append(list, withState(normal, s), withState(start, s), withState(data, s), withState(cold, s))
	}
	for i := range stateFields {
		for _, wrong := range []int64{-1, stateFields[i].greatest + 1, least, greatest} {
			list = append(list, withState(cold, stateOf(with(fieldsOf(coldState), i, wrong))))
		}
		for _, value := range []int64{1, 2, stateFields[i].greatest} {
			list = append(list, withState(normal, stateOf(with(repeated(0, 5), i, value))))
		}
	}
	for _, s := range states() {
		if s != leastState {
			list = append(list, withState(normal, s))
		}
	}
	for mode := int64(1); mode <= 15; mode++ {
		list = append(list, withState(cold, stateOf(with(fieldsOf(coldState), 1, mode))))
	}
	for _, members := range vectors() {
		if len(membersByReference(members)) != 1 {
			list = append(list, withState(cold, stateOf(with(fieldsOf(coldState), 4, members))))
		}
	}
	return list
}

// notFrames returns frames with one thing that is wrong, and some with several.
func notFrames() []impl.Frame {
	list := append(framesOfWrongData(), framesOfWrongStates()...)
	for i, base := range baseFrames() {
		for _, kind := range notKinds() {
			list = append(list, withKind(base, kind), impl.Frame{Kind: kind}, withRequest(withKind(base, kind), 0))
		}
		for _, request := range notRequests() {
			list = append(list, withRequest(base, request), withRequest(framesOfWrongData()[i], request), withRequest(framesOfWrongStates()[i], request))
		}
	}
	for request := int64(1); request <= 7; request++ {
		list = append(list, impl.Frame{Kind: impl.FrameCold, Request: request, State: coldState})
	}
	return append(list, impl.Frame{Kind: -1, Request: -1, State: notStates()[0], Data: []int64{-1}}, impl.Frame{Kind: impl.FrameCold})
}

func TestConstantsOfFrames(t *testing.T) {
	got := []int64{impl.FrameNormal, impl.FrameInit, impl.FrameData, impl.FrameCold, impl.MaxData, impl.MaxRequest}
	expectList(t, "the constants", got, 0, []int64{0, 1, 2, 3, 32, 7}, 0)
}

func TestIsFrame(t *testing.T) {
	for _, x := range []struct {
		f    impl.Frame
		want bool
	}{
		{impl.Frame{}, true},
		{impl.Frame{Kind: impl.FrameNormal, Request: 1, Data: []int64{5}}, true},
		{impl.Frame{Kind: impl.FrameNormal, Request: 7, Data: repeated(255, 32)}, true},
		{impl.Frame{Kind: impl.FrameNormal, Request: 8}, false},
		{impl.Frame{Kind: impl.FrameNormal, Request: -1}, false},
		{impl.Frame{Kind: impl.FrameNormal, Data: repeated(0, 33)}, false},
		{impl.Frame{Kind: impl.FrameNormal, Data: []int64{256}}, false},
		{impl.Frame{Kind: impl.FrameNormal, State: coldState}, false},
		{impl.Frame{Kind: impl.FrameInit}, true},
		{impl.Frame{Kind: impl.FrameInit, Request: 7, State: greatestState}, true},
		{impl.Frame{Kind: impl.FrameInit, State: middleState, Data: []int64{0}}, false},
		{impl.Frame{Kind: impl.FrameInit, State: impl.State{Mode: 16}}, false},
		{impl.Frame{Kind: impl.FrameData, Data: []int64{0}}, true},
		{impl.Frame{Kind: impl.FrameData, Request: 7, State: greatestState, Data: repeated(255, 32)}, true},
		{impl.Frame{Kind: impl.FrameData, State: middleState}, false},
		{impl.Frame{Kind: impl.FrameData, State: middleState, Data: repeated(0, 33)}, false},
		{impl.Frame{Kind: impl.FrameData, State: impl.State{Slot: 256}, Data: []int64{0}}, false},
		{impl.Frame{Kind: impl.FrameCold, State: impl.State{Members: 1}}, true},
		{impl.Frame{Kind: impl.FrameCold, State: impl.State{Time: 65535, Round: 15, Slot: 255, Members: 1 << 31}}, true},
		{impl.Frame{Kind: impl.FrameCold, State: impl.State{Members: 0}}, false},
		{impl.Frame{Kind: impl.FrameCold, State: impl.State{Members: 3}}, false},
		{impl.Frame{Kind: impl.FrameCold, State: impl.State{Members: 1 << 32}}, false},
		{impl.Frame{Kind: impl.FrameCold, State: impl.State{Mode: 1, Members: 1}}, false},
		{impl.Frame{Kind: impl.FrameCold, Request: 1, State: impl.State{Members: 1}}, false},
		{impl.Frame{Kind: impl.FrameCold, State: impl.State{Members: 1}, Data: []int64{0}}, false},
		{impl.Frame{Kind: -1}, false},
		{impl.Frame{Kind: 4, State: coldState}, false},
	} {
		if got := impl.IsFrame(x.f); got != x.want {
			t.Errorf("%s is %v", frameName("IsFrame", x.f), got)
		}
	}
}

func TestIsFrameOfManyFrames(t *testing.T) {
	for _, f := range frames() {
		if !impl.IsFrame(f) {
			t.Errorf("%s is false", frameName("IsFrame", f))
		}
	}
	for _, f := range notFrames() {
		if impl.IsFrame(f) {
			t.Errorf("%s is true", frameName("IsFrame", f))
		}
	}
}

// All kinds, requests, states and data are tried with one another, at their ends and behind them.
func TestIsFrameOfAllCombinations(t *testing.T) {
	valid := map[int64]int{}
	combined := []impl.State{leastState, greatestState, middleState, coldState, {Members: 1}, {Members: 1 << 31}, {Members: 3}, {Mode: 1, Members: 1}, {Time: -1, Members: 1}, {Slot: 256}, {Members: -1}}
	for kind := int64(-2); kind <= 5; kind++ {
		for request := int64(-2); request <= 9; request++ {
			for _, s := range combined {
				for _, data := range [][]int64{nil, {}, {0}, {255}, {256}, {-1}, repeated(9, 31), repeated(9, 32), repeated(9, 33), with(repeated(9, 32), 31, 256), with(repeated(9, 32), 0, -1)} {
					f := impl.Frame{Kind: kind, Request: request, State: s, Data: data}
					got, want := impl.IsFrame(f), isFrameByReference(f)
					if got != want {
						t.Errorf("%s is %v", frameName("IsFrame", f), got)
					}
					if want {
						valid[kind]++
					}
				}
			}
		}
	}
	if valid[0] < 30 || valid[1] < 100 || valid[2] < 100 || valid[3] < 6 || len(valid) != 4 {
		t.Errorf("so many frames of each kind are valid: %v", valid)
	}
}

// A valid state in a normal frame makes it invalid, even if it is that of the receiver; a state with no field set does not.
func TestIsFrameOfNormalFramesWithStates(t *testing.T) {
	for _, s := range append(states(), notStates()...) {
		f := impl.Frame{Kind: impl.FrameNormal, State: s, Data: []int64{5}}
		if got := impl.IsFrame(f); got != (s == impl.State{}) {
			t.Errorf("%s is %v", frameName("IsFrame", f), got)
		}
	}
}

func TestFrameBody(t *testing.T) {
	for _, x := range []struct {
		f    impl.Frame
		want []int64
	}{
		{impl.Frame{Kind: impl.FrameNormal, Request: 1, Data: []int64{5}}, []int64{8, 1, 5}},
		{impl.Frame{}, []int64{0, 0}},
		{impl.Frame{Request: 7}, []int64{56, 0}},
		{impl.Frame{Request: 7, Data: []int64{}}, []int64{56, 0}},
		{impl.Frame{Request: 2, Data: []int64{0, 255, 128}}, []int64{16, 3, 0, 255, 128}},
		{impl.Frame{Data: repeated(255, 32)}, joined([]int64{0, 32}, repeated(255, 32))},
		{impl.Frame{Kind: impl.FrameInit}, joined([]int64{64}, repeated(0, 8))},
		{impl.Frame{Kind: impl.FrameInit, Request: 7, State: greatestState}, joined([]int64{120}, repeated(255, 8))},
		{impl.Frame{Kind: impl.FrameInit, Request: 1, State: middleState}, []int64{72, 1, 44, 0x12, 3, 0, 0, 0, 5}},
		{impl.Frame{Kind: impl.FrameData, State: middleState, Data: []int64{9}}, []int64{128, 1, 44, 0x12, 3, 0, 0, 0, 5, 1, 9}},
		{impl.Frame{Kind: impl.FrameData, Request: 7, Data: repeated(1, 32)}, joined([]int64{184}, repeated(0, 8), []int64{32}, repeated(1, 32))},
		{impl.Frame{Kind: impl.FrameCold, State: coldState}, []int64{192, 1, 44, 2, 3, 0, 0, 0, 4}},
		{impl.Frame{Kind: impl.FrameCold, State: impl.State{Members: 1 << 31}}, []int64{192, 0, 0, 0, 0, 128, 0, 0, 0}},
	} {
		got, code := impl.FrameBody(x.f)
		expectList(t, frameName("FrameBody", x.f), got, code, x.want, impl.ErrNone)
		back, code := impl.FrameFromBody(x.want)
		expectFrame(t, "FrameFromBody "+listText(x.want), back, code, x.f, impl.ErrNone)
	}
}

func TestFrameBodyOfManyFrames(t *testing.T) {
	for _, f := range frames() {
		got, code := impl.FrameBody(f)
		expectList(t, frameName("FrameBody", f), got, code, bodyByReference(f), impl.ErrNone)
	}
}

func TestFrameBodyErrors(t *testing.T) {
	for _, f := range notFrames() {
		got, code := impl.FrameBody(f)
		expectList(t, frameName("FrameBody", f), got, code, nil, impl.ErrInvalid)
	}
}

// checkBody compares FrameFromBody of a byte list with the reference, and reports whether the list is a body.
func checkBody(t *testing.T, list []int64) bool {
	t.Helper()
	want, ok := frameByReference(list)
	wantCode := int64(impl.ErrSyntax)
	if ok {
		wantCode = impl.ErrNone
	}
	got, code := impl.FrameFromBody(list)
	expectFrame(t, "FrameFromBody "+shortened(list), got, code, want, wantCode)
	return ok
}

// expectNoBody fails the test if a byte list is the body of a frame, for the program or the reference.
func expectNoBody(t *testing.T, list []int64) {
	t.Helper()
	if checkBody(t, list) {
		t.Errorf("%s is a body", shortened(list))
	}
}

func TestFrameFromBodyOfOtherLists(t *testing.T) {
	zeros := repeated(0, 8)
	for _, list := range [][]int64{
		nil, {}, {0}, {8}, {64}, {128}, {192}, {255},
		{1, 1, 5}, {9, 1, 5}, {10, 1, 5}, {12, 1, 5}, {15, 1, 5}, {7, 0},
		{0, 1}, {0, 0, 0}, {0, 2, 5}, {0, 1, 5, 6}, {0, 255}, {0, 33},
		joined([]int64{0, 33}, repeated(5, 33)),
		joined([]int64{0, 255}, repeated(5, 255)),
		joined([]int64{0, 0}, repeated(5, 256)),
		joined([]int64{0, 1}, repeated(5, 257)),
		joined([]int64{64}, repeated(0, 7)),
		joined([]int64{64}, repeated(0, 9)),
		joined([]int64{65}, zeros),
		joined([]int64{64}, zeros, []int64{1, 5}),
		joined([]int64{128}, zeros),
		joined([]int64{128}, repeated(0, 7)),
		joined([]int64{128}, zeros, []int64{0}),
		joined([]int64{128}, zeros, []int64{1}),
		joined([]int64{128}, zeros, []int64{2, 5}),
		joined([]int64{128}, zeros, []int64{1, 5, 6}),
		joined([]int64{132}, zeros, []int64{1, 5}),
		joined([]int64{128}, zeros, []int64{33}, repeated(5, 33)),
		joined([]int64{128}, zeros, []int64{1}, repeated(5, 257)),
		joined([]int64{192}, zeros),
		joined([]int64{192}, repeated(255, 8)),
		{192, 0, 0, 0, 0, 0, 0, 0, 3},
		{192, 0, 0, 16, 0, 0, 0, 0, 1},
		{192, 0, 0, 240, 0, 0, 0, 0, 1},
		{200, 0, 0, 0, 0, 0, 0, 0, 1},
		{248, 0, 0, 0, 0, 0, 0, 0, 1},
		{193, 0, 0, 0, 0, 0, 0, 0, 1},
		{192, 0, 0, 0, 0, 0, 0, 0, 1, 0},
		{192, 0, 0, 0, 0, 0, 0, 1},
	} {
		expectNoBody(t, list)
	}
	for _, value := range []int64{0, 1, 8, 32, 64, 128, 192, 255} {
		for _, size := range []int{100, 255, 256, 257, maxBytes - 1, maxBytes} {
			expectNoBody(t, repeated(value, size))
		}
	}
}

// A body that is cut or extended, or whose head or number of data bytes is another one, is compared with the reference.
func TestFrameFromBodyOfChangedBodies(t *testing.T) {
	bodies, others := 0, 0
	check := func(list []int64) {
		if checkBody(t, list) {
			bodies++
		} else {
			others++
		}
	}
	for i, f := range frames() {
		body := bodyByReference(f)
		for _, size := range []int{0, 1, 2, 8, 9, 10, len(body) - 2, len(body) - 1} {
			if size < len(body) {
				expectNoBody(t, body[:size])
			}
		}
		for _, more := range [][]int64{{0}, {255}, {1, 0}, body} {
			expectNoBody(t, joined(body, more))
		}
		for low := int64(1); low < 8; low++ {
			expectNoBody(t, with(body, 0, body[0]+low))
		}
		head := int64(i*8) % 256
		check(with(body, 0, head))
		check(with(body, 0, body[0]%64+head/64*64))
		if f.Kind != impl.FrameNormal && f.Kind != impl.FrameData {
			continue
		}
		place := len(body) - len(f.Data) - 1
		for _, count := range []int64{0, 1, 31, 32, 33, 255, body[place] - 1, body[place] + 1} {
			if count >= 0 && count != body[place] {
				expectNoBody(t, with(body, place, count))
			}
		}
	}
	if bodies < 100 || others < 100 {
		t.Errorf("%d of the changed bodies are bodies, and %d are none", bodies, others)
	}
}

// All heads and all lists of at most two bytes are tried.
func TestFrameFromBodyOfAllShortLists(t *testing.T) {
	for head := range int64(256) {
		expectNoBody(t, []int64{head})
		for value := range int64(256) {
			list := []int64{head, value}
			got, code := impl.FrameFromBody(list)
			if head%8 == 0 && head < 64 && value == 0 {
				expectFrame(t, "FrameFromBody "+listText(list), got, code, impl.Frame{Request: head / 8}, impl.ErrNone)
			} else {
				expectFrame(t, "FrameFromBody "+listText(list), got, code, impl.Frame{}, impl.ErrSyntax)
			}
		}
		for _, f := range baseFrames() {
			checkBody(t, with(bodyByReference(f), 0, head))
		}
	}
}

// A list that is no byte list is refused as such, whether it would be a body otherwise or not.
func TestFrameFromBodyOfNoByteLists(t *testing.T) {
	lists := notBytes()
	for _, wrong := range []int64{-1, 256, -256, 257, 1 << 32, 1<<32 + 8, least, greatest} {
		for _, f := range append(baseFrames(), impl.Frame{}, framesWithData()[300], framesWithData()[2000]) {
			body := bodyByReference(f)
			for index := range body {
				// Without the wrong element, the second one is a body that is too short.
				lists = append(lists, with(body, index, wrong), joined(body[:index], []int64{wrong}))
			}
			lists = append(lists, joined(body, []int64{wrong}), joined([]int64{wrong}, body))
		}
		lists = append(lists, []int64{wrong}, []int64{9, wrong}, []int64{wrong, 0}, joined(repeated(0, maxBytes-1), []int64{wrong}))
	}
	for _, f := range baseFrames() {
		body := bodyByReference(f)
		lists = append(lists, joined(body, repeated(0, maxBytes+1-len(body))), joined(body, repeated(5, 9000)))
	}
	for _, list := range lists {
		got, code := impl.FrameFromBody(list)
		expectFrame(t, "FrameFromBody "+shortened(list), got, code, impl.Frame{}, impl.ErrRange)
	}
}

// sizeByReference returns the number of bytes of a body, or 0 if no frame of a kind has so many data bytes.
func sizeByReference(kind int64, data int64) int64 {
	switch {
	case kind == impl.FrameNormal && data >= 0 && data <= 32:
		return 2 + data
	case kind == impl.FrameData && data >= 1 && data <= 32:
		return 10 + data
	case (kind == impl.FrameInit || kind == impl.FrameCold) && data == 0:
		return 9
	}
	return 0
}

func TestBodySize(t *testing.T) {
	for kind := range int64(4) {
		for data := int64(-40); data <= 300; data++ {
			want, wantCode := sizeByReference(kind, data), int64(impl.ErrNone)
			if want == 0 {
				wantCode = impl.ErrRange
			}
			got, code := impl.BodySize(kind, data)
			expectNumber(t, fmt.Sprint("BodySize ", kind, data), got, code, want, wantCode)
		}
		for _, data := range []int64{1024, 1025, 1 << 32, 1<<32 + 1, -1 << 32, least, least + 1, greatest} {
			got, code := impl.BodySize(kind, data)
			expectNumber(t, fmt.Sprint("BodySize ", kind, data), got, code, 0, impl.ErrRange)
		}
	}
}

// A kind that is none is refused first, whatever the number of data bytes is.
func TestBodySizeOfOtherKinds(t *testing.T) {
	for _, kind := range notKinds() {
		for _, data := range []int64{0, 1, 32, 33, -1, least, greatest} {
			got, code := impl.BodySize(kind, data)
			expectNumber(t, fmt.Sprint("BodySize ", kind, data), got, code, 0, impl.ErrInvalid)
		}
	}
}

func TestKindOfHead(t *testing.T) {
	for head, want := range map[int64]int64{0: 0, 7: 0, 56: 0, 63: 0, 64: 1, 65: 1, 127: 1, 128: 2, 191: 2, 192: 3, 193: 3, 200: 3, 255: 3} {
		got, code := impl.KindOfHead(head)
		expectNumber(t, fmt.Sprint("KindOfHead ", head), got, code, want, impl.ErrNone)
	}
	for head := range int64(256) {
		got, code := impl.KindOfHead(head)
		expectNumber(t, fmt.Sprint("KindOfHead ", head), got, code, numberOfBits(bitsOfText(textOfNumber(head, 8)[:2])), impl.ErrNone)
	}
	for _, head := range []int64{-1, 256, -64, -255, -256, 257, 320, 512, 1 << 32, 1<<32 + 64, least, least + 64, greatest} {
		got, code := impl.KindOfHead(head)
		expectNumber(t, fmt.Sprint("KindOfHead ", head), got, code, 0, impl.ErrRange)
	}
}

// The head of each body tells the kind of its frame.
func TestKindOfTheHeadsOfBodies(t *testing.T) {
	for _, f := range frames() {
		body, _ := impl.FrameBody(f)
		got, code := impl.KindOfHead(body[0])
		expectNumber(t, frameName("KindOfHead of the head of", f), got, code, f.Kind, impl.ErrNone)
	}
}

func TestKindName(t *testing.T) {
	for kind, want := range []string{"normal", "init", "data", "cold"} {
		if got := impl.KindName(int64(kind)); got != want {
			t.Errorf("KindName(%d) is %q", kind, got)
		}
	}
	for _, kind := range notKinds() {
		if got := impl.KindName(kind); got != "" {
			t.Errorf("KindName(%d) is %q", kind, got)
		}
	}
}

func TestHasStateAndData(t *testing.T) {
	want := [][]bool{{false, true}, {true, false}, {true, true}, {true, false}}
	for kind, x := range want {
		if state, data := impl.HasStateAndData(int64(kind)); state != x[0] || data != x[1] {
			t.Errorf("HasStateAndData(%d) is %v, %v", kind, state, data)
		}
	}
	for _, kind := range notKinds() {
		if state, data := impl.HasStateAndData(kind); state || data {
			t.Errorf("HasStateAndData(%d) is %v, %v", kind, state, data)
		}
	}
}

// Promise 1, frames: every valid frame is recovered from its body, which has as many bytes as BodySize tells, and
// different frames have different bodies.
func TestFramesAreRecovered(t *testing.T) {
	seen := map[string]impl.Frame{}
	kinds := map[int64]int{}
	for _, f := range frames() {
		body, code := impl.FrameBody(f)
		if code != impl.ErrNone {
			t.Fatalf("%s: code %d", frameName("FrameBody", f), code)
		}
		got, code := impl.FrameFromBody(body)
		expectFrame(t, "FrameFromBody "+listText(body), got, code, f, impl.ErrNone)
		size, code := impl.BodySize(f.Kind, int64(len(f.Data)))
		expectNumber(t, frameName("BodySize of", f), size, code, int64(len(body)), impl.ErrNone)
		if other, ok := seen[listText(body)]; ok && !areEqualFrames(other, f) {
			t.Errorf("%v and %v have the body %s", f, other, listText(body))
		}
		seen[listText(body)] = f
		kinds[f.Kind]++
	}
	for kind := range int64(4) {
		if kinds[kind] < 200 {
			t.Errorf("%d frames have the kind %d", kinds[kind], kind)
		}
	}
}

// nearFrames returns valid frames that differ from a valid one in one thing alone.
func nearFrames(f impl.Frame) []impl.Frame {
	var list []impl.Frame
	for kind := range int64(4) {
		list = append(list, withKind(f, kind))
	}
	for request := range int64(8) {
		list = append(list, withRequest(f, request))
	}
	for i, field := range stateFields {
		for bit := range field.width {
			list = append(list, withState(f, stateOf(with(fieldsOf(f.State), i, fieldsOf(f.State)[i]^1<<bit))))
		}
	}
	for i, value := range f.Data {
		for bit := range 8 {
			list = append(list, withData(f, with(f.Data, i, value^1<<bit)))
		}
		list = append(list, withData(f, slices.Delete(slices.Clone(f.Data), i, i+1)))
	}
	list = append(list, withData(f, joined(f.Data, []int64{0})), withData(f, joined([]int64{0}, f.Data)), withData(f, joined(f.Data, []int64{1})))
	isSame := func(other impl.Frame) bool { return areEqualFrames(other, f) || !isFrameByReference(other) }
	return slices.DeleteFunc(list, isSame)
}

// Promise 1, frames: frames that differ in a bit of a field, in their kind or in one data byte have different bodies.
func TestNearFramesHaveDifferentBodies(t *testing.T) {
	pairs := 0
	for i, f := range frames() {
		if i%5 != 0 && f.Kind != impl.FrameCold {
			continue
		}
		body, _ := impl.FrameBody(f)
		for _, other := range nearFrames(f) {
			near, code := impl.FrameBody(other)
			if code != impl.ErrNone || slices.Equal(body, near) {
				t.Errorf("%v has the body %s, and %v %s, code %d", f, listText(body), other, listText(near), code)
			}
			pairs++
		}
	}
	if pairs < 10000 {
		t.Errorf("%d pairs of frames are compared", pairs)
	}
}

// changedLists returns lists that differ from the bodies of valid frames in a byte, and lists with some heads that follow
// no simple pattern otherwise.
func changedLists() [][]int64 {
	var lists [][]int64
	for i, f := range frames() {
		body := bodyByReference(f)
		lists = append(lists, body)
		for k, value := range mixed(8, 256, uint64(i)+96) {
			lists = append(lists, with(body, (i+k*7)%len(body), value))
		}
	}
	for seed := range uint64(4000) {
		size := int(seed % 43)
		list := joined([]int64{int64(seed*5%32) * 8}, mixed(size, 256, seed+97))
		lists = append(lists, list)
		for place := range []int{1, 9} {
			if place < len(list) {
				lists = append(lists, with(list, place, int64(len(list)-place-1)))
			}
		}
	}
	return lists
}

// Promise 1, frames: a byte list that is read as a frame is the body of this frame.
func TestBodiesAreThoseOfTheirFrames(t *testing.T) {
	kinds, others := map[int64]int{}, 0
	for _, list := range changedLists() {
		f, code := impl.FrameFromBody(list)
		if code != impl.ErrNone {
			expectFrame(t, "FrameFromBody "+listText(list), f, code, impl.Frame{}, impl.ErrSyntax)
			others++
			continue
		}
		if !impl.IsFrame(f) {
			t.Errorf("FrameFromBody %s returns %v, which is not valid", listText(list), f)
		}
		body, code := impl.FrameBody(f)
		expectList(t, frameName("FrameBody", f), body, code, list, impl.ErrNone)
		kinds[f.Kind]++
	}
	for kind := range int64(4) {
		if kinds[kind] < 500 || others < 500 {
			t.Errorf("%d lists are read as frames of the kind %d, and %d are refused", kinds[kind], kind, others)
		}
	}
}

// The same lists are read as the reference reads them.
func TestFrameFromBodyOfManyLists(t *testing.T) {
	for _, list := range changedLists() {
		checkBody(t, list)
	}
}

func TestFramesLeaveMemoryAlone(t *testing.T) {
	datas := append(memoryLists(), []int64{}, []int64{5}, []int64{256}, mixed(31, 256, 98), mixed(32, 256, 99), mixed(33, 256, 100))
	for _, base := range baseFrames() {
		for _, data := range datas {
			f := withData(base, data)
			checkMemory(t, frameName("FrameBody", f), func(l [][]int64) []int64 { return first(impl.FrameBody(withData(base, l[0]))) }, data)
			checkMemory(t, frameName("IsFrame", f), func(l [][]int64) []int64 { return truth(impl.IsFrame(withData(base, l[0]))) }, data)
		}
	}
	lists := append(memoryLists(), []int64{8, 1}, []int64{9, 1, 5}, []int64{8, 1, 5, 6})
	for i, f := range frames() {
		if i%40 == 0 || f.Request == 7 {
			lists = append(lists, bodyByReference(f))
		}
	}
	for _, list := range lists {
		checkMemory(t, "FrameFromBody "+shortened(list), func(l [][]int64) []int64 {
			f, _ := impl.FrameFromBody(l[0])
			return f.Data
		}, list)
	}
}

// What is written into a frame that has been read, or into a body, changes no later result.
func TestFramesKeepNothing(t *testing.T) {
	for _, f := range baseFrames() {
		body, _ := impl.FrameBody(f)
		got, _ := impl.FrameFromBody(body)
		want := slices.Clone(f.Data)
		fill(body[:cap(body)], mark)
		if !slices.Equal(got.Data, want) {
			t.Errorf("%v changes with its body", got)
		}
		fill(got.Data[:cap(got.Data)], mark)
		again, code := impl.FrameBody(f)
		expectList(t, frameName("FrameBody again", f), again, code, bodyByReference(f), impl.ErrNone)
		back, code := impl.FrameFromBody(again)
		expectFrame(t, "FrameFromBody again "+listText(again), back, code, f, impl.ErrNone)
	}
}
