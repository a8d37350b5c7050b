package tests

import (
	"fmt"
	"regexp"
	"slices"
	"strconv"
	"strings"
	"sync"
	"testing"

	"loop.example/g00833/impl"
)

// dataOfMedl returns the data of a schedule, well-formed or not, whose numbers have room in their bytes. It does not use the
// program.
func dataOfMedl(m impl.Medl) []int64 {
	id := bytesByReference(bitsOfText(textOfNumber(m.Id, 24)))
	return joined(id, bytesOfNodes(len(m.Nodes), m.Nodes), bytesOfModes(len(m.Modes), m.Modes), bytesOfSlots(len(m.Slots), m.Slots))
}

// medlByReference returns what ScheduleFromBytes returns. It does not use the program.
func medlByReference(list []int64) (impl.Medl, int64) {
	if len(list) > 1024 || slices.ContainsFunc(list, isNoByte) {
		return impl.Medl{}, impl.ErrRange
	}
	if len(list) < 3 {
		return impl.Medl{}, impl.ErrSyntax
	}
	nodes, first, nodesCode := nodesByReference(list[3:])
	modes, second, modesCode := modesByReference(list[3+first:])
	entries, third, slotsCode := slotsByReference(list[3+first+second:])
	if nodesCode+modesCode+slotsCode != 0 || 3+first+second+third != int64(len(list)) {
		return impl.Medl{}, impl.ErrSyntax
	}
	m := impl.Medl{Id: numberOfBits(bitsOfBytes(list[:3])), Nodes: nodes, Modes: modes, Slots: entries}
	if firstByReference(m) != 0 {
		return impl.Medl{}, impl.ErrInvalid
	}
	return m, impl.ErrNone
}

// decodedByReference returns what DecodeImage returns. It does not use the program.
func decodedByReference(image []int64) (impl.Medl, int64) {
	if len(image) > 1024 || slices.ContainsFunc(image, isNoByte) {
		return impl.Medl{}, impl.ErrRange
	}
	data, code := dataByReference(image)
	if code != impl.ErrNone {
		return impl.Medl{}, code
	}
	return medlByReference(data)
}

// idByReference returns what IdOfImage returns. It does not use the program.
func idByReference(image []int64) (int64, int64) {
	if len(image) > 1024 || slices.ContainsFunc(image, isNoByte) {
		return 0, impl.ErrRange
	}
	first := slicesByReference(image)[0]
	size := len(first) - 3
	if size < 2 || !slices.Equal(checkOfBlock(0, first[:size]), first[size:]) {
		return 0, impl.ErrDamage
	}
	if size < 5 || first[0] != 0 || slices.Equal(first[2:5], []int64{0, 0, 0}) {
		return 0, impl.ErrSyntax
	}
	return first[2]<<16 + first[3]<<8 + first[4], impl.ErrNone
}

// textOfImage returns the bytes of a list as hexadecimal digits. It does not use the program.
func textOfImage(image []int64) string {
	var text strings.Builder
	for _, value := range image {
		fmt.Fprintf(&text, "%02x", value)
	}
	return text.String()
}

var hexPattern = regexp.MustCompile(`\A(?:[0-9a-f][0-9a-f])*\z`)

// imageOfText returns what ReadImageText returns. It does not use the program.
func imageOfText(text string) ([]int64, bool) {
	if len(text) > 2048 || !hexPattern.MatchString(text) {
		return nil, false
	}
	image := []int64{}
	for at := 0; at < len(text); at += 2 {
		value, _ := strconv.ParseInt(text[at:at+2], 16, 64)
		image = append(image, value)
	}
	return image, true
}

// expectScheduleBytes fails the test if ScheduleBytes does not return these data. It is called so often that the call is named
// only in a failure, as are those below.
func expectScheduleBytes(t *testing.T, m impl.Medl, want []int64, wantCode int64) {
	t.Helper()
	if got, code := impl.ScheduleBytes(m); code != wantCode || !slices.Equal(got, want) {
		t.Errorf("ScheduleBytes %s: %v, code %d, want %v, code %d", nameOfMedl(m), got, code, want, wantCode)
	}
}

func expectSchedule(t *testing.T, list []int64, want impl.Medl, wantCode int64) {
	t.Helper()
	if got, code := impl.ScheduleFromBytes(list); code != wantCode || !sameMedls(got, want) {
		t.Errorf("ScheduleFromBytes %v: %s, code %d, want %s, code %d", list, nameOfMedl(got), code, nameOfMedl(want), wantCode)
	}
}

func expectEncoded(t *testing.T, m impl.Medl, want []int64, wantCode int64) {
	t.Helper()
	if got, code := impl.EncodeImage(m); code != wantCode || !slices.Equal(got, want) {
		t.Errorf("EncodeImage %s: %v, code %d, want %v, code %d", nameOfMedl(m), got, code, want, wantCode)
	}
}

func expectDecoded(t *testing.T, image []int64, want impl.Medl, wantCode int64) {
	t.Helper()
	if got, code := impl.DecodeImage(image); code != wantCode || !sameMedls(got, want) {
		t.Errorf("DecodeImage %v: %s, code %d, want %s, code %d", image, nameOfMedl(got), code, nameOfMedl(want), wantCode)
	}
}

func expectId(t *testing.T, image []int64, want int64, wantCode int64) {
	t.Helper()
	if got, code := impl.IdOfImage(image); code != wantCode || got != want {
		t.Errorf("IdOfImage %v: %d, code %d, want %d, code %d", image, got, code, want, wantCode)
	}
}

func expectImageText(t *testing.T, image []int64, want string) {
	t.Helper()
	if got := impl.ImageText(image); got != want {
		t.Errorf("ImageText %v: %q, want %q", image, got, want)
	}
}

func expectImageRead(t *testing.T, text string, want []int64, wantOk bool) {
	t.Helper()
	if got, ok := impl.ReadImageText(text); ok != wantOk || !slices.Equal(got, want) {
		t.Errorf("ReadImageText %q: %v, %v, want %v, %v", text, got, ok, want, wantOk)
	}
}

// expectBroken fails the test if one of the two functions does not say that a schedule is not well-formed.
func expectBroken(t *testing.T, m impl.Medl) {
	t.Helper()
	expectScheduleBytes(t, m, nil, impl.ErrInvalid)
	expectEncoded(t, m, nil, impl.ErrInvalid)
}

// expectNoSchedule fails the test if a list of data, and the image of data that have one, are not refused with a code.
func expectNoSchedule(t *testing.T, data []int64, wantCode int64) {
	t.Helper()
	expectSchedule(t, data, impl.Medl{}, wantCode)
	if wantCode != impl.ErrRange && len(data) <= mostData {
		expectDecoded(t, imageByReference(data), impl.Medl{}, wantCode)
	}
}

// expectDecodeErrors fails the test if DecodeImage and IdOfImage do not refuse an image with these codes.
func expectDecodeErrors(t *testing.T, image []int64, decodeCode int64, idCode int64) {
	t.Helper()
	expectDecoded(t, image, impl.Medl{}, decodeCode)
	expectId(t, image, 0, idCode)
}

// checkSchedule compares ScheduleFromBytes of a list with the reference, and returns the code. What it accepts must be
// well-formed and have the list as its data.
func checkSchedule(t *testing.T, list []int64) int64 {
	t.Helper()
	want, wantCode := medlByReference(list)
	expectSchedule(t, list, want, wantCode)
	if got, code := impl.ScheduleFromBytes(list); code == impl.ErrNone {
		expectFault(t, got, 0)
		expectScheduleBytes(t, got, list, impl.ErrNone)
	}
	return wantCode
}

// checkDecoded compares DecodeImage and IdOfImage of a list with the reference, and returns the code of DecodeImage. What it
// accepts must be well-formed and have the list as its image.
func checkDecoded(t *testing.T, image []int64) int64 {
	t.Helper()
	want, wantCode := decodedByReference(image)
	expectDecoded(t, image, want, wantCode)
	id, idCode := idByReference(image)
	expectId(t, image, id, idCode)
	if got, code := impl.DecodeImage(image); code == impl.ErrNone {
		expectFault(t, got, 0)
		expectEncoded(t, got, image, impl.ErrNone)
		expectId(t, image, got.Id, impl.ErrNone)
	}
	return wantCode
}

// checkMedlRecovered checks that a well-formed schedule is recovered from its data, as far as these are a byte list, and from
// its image, as far as it has one.
func checkMedlRecovered(t *testing.T, m impl.Medl) {
	t.Helper()
	data := dataOfMedl(m)
	expectScheduleBytes(t, m, data, impl.ErrNone)
	if len(data) > maxBytes {
		expectSchedule(t, data, impl.Medl{}, impl.ErrRange)
		expectEncoded(t, m, nil, impl.ErrLimit)
		return
	}
	expectSchedule(t, data, m, impl.ErrNone)
	if len(data) > mostData {
		expectEncoded(t, m, nil, impl.ErrLimit)
		return
	}
	image, code := impl.ImageOf(data)
	if want := imageByReference(data); code != impl.ErrNone || !slices.Equal(image, want) {
		t.Errorf("ImageOf %v: %v, code %d, want %v", data, image, code, want)
	}
	expectEncoded(t, m, image, impl.ErrNone)
	expectDecoded(t, image, m, impl.ErrNone)
	expectId(t, image, m.Id, impl.ErrNone)
	text := textOfImage(image)
	expectImageText(t, image, text)
	expectImageRead(t, text, image, true)
}

// imageIds are numbers of schedules, with each of their three bytes 0, 255 and others.
func imageIds() []int64 {
	return append(goodIds(), 254, 257, 511, 512, 4095, 65280, 65534, 65537, 65791, 131072, 0x010203, 0x030201, 0x00ff01, 0xff00ff, 0xff0000, 0x800000, 0x808080, 0x7fffff)
}

// withMedlId returns a copy of a schedule with another number.
func withMedlId(m impl.Medl, id int64) impl.Medl {
	return changed(m, func(m *impl.Medl) { m.Id = id })
}

// withNameSizes returns a copy of a schedule in which the names of the nodes have the sizes that a function gives.
func withNameSizes(m impl.Medl, sizeOf func(index int) int) impl.Medl {
	return changed(m, func(m *impl.Medl) {
		for i := range m.Nodes {
			m.Nodes[i].Name = "abcdefghijklmnopqrstuvwxyz0123456789"[i:i+1] + strings.Repeat("z9", 3)[:sizeOf(i)-1]
		}
	})
}

// withAllNext returns a copy of a schedule in which each mode whose bit in a number is 1 may be changed to all others, and all
// other modes to none.
func withAllNext(m impl.Medl, chosen int) impl.Medl {
	return changed(m, func(m *impl.Medl) {
		for mode := range m.Modes {
			m.Modes[mode].Next = nil
			if chosen>>mode&1 == 1 {
				m.Modes[mode].Next = withoutMode(len(m.Modes), mode)
			}
		}
	})
}

// smallestMedl is a schedule with the fewest data that there are.
func smallestMedl() impl.Medl {
	return impl.Medl{
		Id:    1,
		Nodes: []impl.NodeInfo{{Id: 0, Name: "a"}},
		Modes: []impl.ModeInfo{{Rounds: 1, Slots: 1}},
		Slots: []impl.SlotInfo{{Desc: impl.Descriptor{Kind: impl.FrameNormal, Duration: 81}}},
	}
}

// largestMedl is a schedule with the most data that there are: 3, 1 + 32 * 11, 1 + 16 * (3 + 15) and 1 + 120 * 7 bytes.
func largestMedl() impl.Medl {
	var cycles []cyclePlan
	for mode := range int64(16) {
		cycles = append(cycles, cyclePlan{rounds: 1, slots: 7 + mode/8})
	}
	m := plannedMedl(7, 25, 4000, cycles...)
	return withAllNext(withNameSizes(m, func(int) int { return 6 }), 1<<16-1)
}

// sizeShape tells how many slots, modes and nodes a schedule of a size may have.
type sizeShape struct{ slots, modes, nodes int }

// dataSize returns the size of the data of a schedule of a shape without Next, with names of one byte each.
func (x sizeShape) dataSize() int { return 3 + 1 + 6*x.nodes + 1 + 3*x.modes + 1 + 7*x.slots }

// sizeShapes returns all shapes that schedules with data of a size may have, with all nodes and slots, and one or two modes.
func sizeShapes(size int) []sizeShape {
	var list []sizeShape
	for slots := 1; slots <= 120; slots++ {
		x := sizeShape{slots: slots, modes: 1}
		if slots > 16 && slots%16 > 0 {
			x.modes = 2
		}
		for x.nodes = 1; x.nodes <= 32; x.nodes++ {
			if missing := size - x.dataSize(); missing >= 0 && missing <= 5*x.nodes {
				list = append(list, x)
			}
		}
	}
	return list
}

// medlOfSize returns a schedule whose data have a size of 22 to 1204 bytes.
func medlOfSize(size int, seed uint64) impl.Medl {
	list := sizeShapes(size)
	x := list[mixed(1, int64(len(list)), seed)[0]]
	var cycles []cyclePlan
	if x.slots >= 16 {
		cycles = append(cycles, cyclePlan{rounds: int64(x.slots / 16), slots: 16})
	}
	if x.slots%16 > 0 {
		cycles = append(cycles, cyclePlan{rounds: 1, slots: int64(x.slots % 16)})
	}
	active := min(x.nodes, fewestSlots(cycles))
	m := plannedMedl(active, x.nodes-active, seed+1, cycles...)
	missing := size - x.dataSize()
	return withAllNext(withNameSizes(m, func(index int) int { return 1 + (missing+index)/x.nodes }), 0)
}

// namedMedls returns schedules of each number of nodes with names of each size, and with names of all sizes.
func namedMedls() []impl.Medl {
	var list []impl.Medl
	for nodes := 1; nodes <= 32; nodes++ {
		m := plannedMedl(min(nodes, 3), max(0, nodes-3), uint64(nodes)+4010, cyclePlan{rounds: 2, slots: 3 + int64(nodes)%5})
		for size := 1; size <= 6; size++ {
			list = append(list, withNameSizes(m, func(int) int { return size }))
		}
		list = append(list, withNameSizes(m, func(index int) int { return 1 + (index+nodes)%6 }))
	}
	return list
}

// changingMedls returns schedules of each number of modes in which none, one, some and all of these may be changed to all
// others.
func changingMedls() []impl.Medl {
	var list []impl.Medl
	for size := 1; size <= 16; size++ {
		var cycles []cyclePlan
		for mode := range int64(size) {
			cycles = append(cycles, cyclePlan{rounds: 1 + mode%2, slots: 2 + mode%3})
		}
		m := plannedMedl(2, size%4, uint64(size)+4060, cycles...)
		for _, chosen := range []int{0, 1, 1 << (size - 1), 0x5555, 0xff00, 0xffff} {
			list = append(list, withAllNext(m, chosen))
		}
	}
	return list
}

// recoveredMedls returns the schedules that promise 1 is tested with, each with one of the numbers.
var recoveredMedls = sync.OnceValue(func() []impl.Medl {
	list := append(slices.Concat(manyMedls(), namedMedls(), changingMedls()), smallestMedl(), largestMedl())
	for size := 22; size <= 1204; size++ {
		list = append(list, medlOfSize(size, uint64(size)*4+4100))
	}
	for i, m := range list {
		list[i] = withMedlId(m, imageIds()[i%len(imageIds())])
	}
	return list
})

// The bytes have been written out by hand, and the check numbers computed by other means.
func TestKnownSchedules(t *testing.T) {
	smallData := []int64{
		0, 0, 77, 2, 0, 0, 100, 0, 1, 97, 1, 0, 50, 0, 1, 98, 2, 2, 2, 1, 1, 1, 2, 1, 0, 6,
		0, 0, 0, 192, 0, 200, 0, 0, 1, 1, 64, 0, 200, 0, 1, 0, 0, 4, 0, 200, 1, 1, 1, 1, 2, 0, 200, 0, 16, 0, 1, 131, 1, 44, 1, 16, 1, 0, 0, 0, 150, 0,
	}
	smallImage := []int64{
		0, 28, 0, 0, 77, 2, 0, 0, 100, 0, 1, 97, 1, 0, 50, 0, 1, 98, 2, 2, 2, 1, 1, 1, 2, 1, 0, 6, 0, 0, 35, 99, 21,
		1, 28, 0, 192, 0, 200, 0, 0, 1, 1, 64, 0, 200, 0, 1, 0, 0, 4, 0, 200, 1, 1, 1, 1, 2, 0, 200, 0, 16, 0, 180, 63, 111,
		2, 140, 1, 131, 1, 44, 1, 16, 1, 0, 0, 0, 150, 0, 197, 202, 229,
	}
	for _, x := range []struct {
		m           impl.Medl
		data, image []int64
	}{
		{impl.SmallMedl(), smallData, smallImage},
		{knownMedl(), smallData, smallImage},
		{
			smallestMedl(),
			[]int64{0, 0, 1, 1, 0, 0, 0, 0, 1, 97, 1, 1, 1, 0, 1, 0, 0, 0, 0, 0, 81, 0},
			[]int64{0, 150, 0, 0, 1, 1, 0, 0, 0, 0, 1, 97, 1, 1, 1, 0, 1, 0, 0, 0, 0, 0, 81, 0, 175, 64, 206},
		},
	} {
		expectScheduleBytes(t, x.m, x.data, impl.ErrNone)
		expectSchedule(t, x.data, x.m, impl.ErrNone)
		expectEncoded(t, x.m, x.image, impl.ErrNone)
		expectDecoded(t, x.image, x.m, impl.ErrNone)
		expectId(t, x.image, x.m.Id, impl.ErrNone)
		expectList(t, "the reference of the data", dataOfMedl(x.m), 0, x.data, 0)
		expectList(t, "the reference of the image", imageByReference(x.data), 0, x.image, 0)
	}
}

// Promise 1, images: schedules are recovered from their data and their images, and their numbers from the latter.
func TestSchedulesAreRecovered(t *testing.T) {
	for _, m := range recoveredMedls() {
		expectFaults(t, m)
		checkMedlRecovered(t, m)
	}
}

// The schedules of the tests are of all the kinds that promise 1 is tested with, those that have images alone are counted.
func TestRecoveredSchedulesAreOfAllKinds(t *testing.T) {
	kinds := map[string]int{}
	names := []string{"one mode", "several modes", "most modes", "one round", "most rounds", "one slot", "most slots", "one node", "most nodes", "passive nodes", "no Next", "all Next"}
	for _, m := range recoveredMedls() {
		if len(dataOfMedl(m)) > mostData {
			kinds["too large"]++
			continue
		}
		has := func(is func(x impl.ModeInfo) bool) bool { return slices.ContainsFunc(m.Modes, is) }
		for i, is := range []bool{
			len(m.Modes) == 1, len(m.Modes) > 1, len(m.Modes) == 16,
			has(func(x impl.ModeInfo) bool { return x.Rounds == 1 }), has(func(x impl.ModeInfo) bool { return x.Rounds == 8 }),
			has(func(x impl.ModeInfo) bool { return x.Slots == 1 }), has(func(x impl.ModeInfo) bool { return x.Slots == 16 }),
			len(m.Nodes) == 1, len(m.Nodes) == 32, slices.ContainsFunc(m.Nodes, func(x impl.NodeInfo) bool { return x.Passive }),
			len(m.Modes) > 1 && has(func(x impl.ModeInfo) bool { return len(x.Next) == 0 }),
			len(m.Modes) > 1 && has(func(x impl.ModeInfo) bool { return len(x.Next) == len(m.Modes)-1 }),
		} {
			if is {
				kinds[names[i]]++
			}
		}
		kinds[fmt.Sprint("Id ", m.Id)]++
		for _, x := range m.Nodes {
			kinds[fmt.Sprint("names of size ", len(x.Name))]++
		}
	}
	names = append(names, "too large", "Id 1", "Id 255", "Id 256", "Id 65536", "Id 16777215")
	for size := 1; size <= 6; size++ {
		names = append(names, fmt.Sprint("names of size ", size))
	}
	for _, name := range names {
		if kinds[name] < 10 {
			t.Errorf("%d of the schedules have %s", kinds[name], name)
		}
	}
}

// Promise 1, images: the data have each size from the least one on, and their last block each size that there is.
func TestSchedulesOfAllSizes(t *testing.T) {
	for size := 22; size <= 1204; size++ {
		if got := len(dataOfMedl(medlOfSize(size, uint64(size)))); got != size {
			t.Fatalf("the data of the schedule of %d bytes have %d", size, got)
		}
	}
	for _, size := range []int{22, 27, 28, 29, 55, 56, 57, 84, 85, 447, 448, 449, 839, 840, 841, 865, 866, 867, 868} {
		for seed := range uint64(8) {
			m := medlOfSize(size, seed+4800)
			checkMedlRecovered(t, m)
			image, code := impl.EncodeImage(m)
			expectNumber(t, fmt.Sprint("the size of the image of ", size, " bytes"), int64(len(image)), code, int64(size+5*((size+27)/28)), impl.ErrNone)
		}
	}
}

// The bound of the data of images, and the bound of byte lists, are tried from both sides.
func TestSchedulesThatAreTooLarge(t *testing.T) {
	for seed := range uint64(12) {
		for size, want := range map[int]int64{866: impl.ErrNone, 867: impl.ErrNone, 868: impl.ErrNone, 869: impl.ErrLimit, 870: impl.ErrLimit, 895: impl.ErrLimit, 896: impl.ErrLimit, 897: impl.ErrLimit} {
			m := medlOfSize(size, seed+4900)
			_, code := impl.EncodeImage(m)
			expectNumber(t, fmt.Sprint("EncodeImage of ", size, " bytes"), 0, code, 0, want)
			checkMedlRecovered(t, m)
			expectSchedule(t, dataOfMedl(m), m, impl.ErrNone)
		}
		for size, want := range map[int]int64{1022: impl.ErrNone, 1023: impl.ErrNone, 1024: impl.ErrNone, 1025: impl.ErrRange, 1026: impl.ErrRange, 1204: impl.ErrRange} {
			m := medlOfSize(size, seed+4950)
			expectEncoded(t, m, nil, impl.ErrLimit)
			data, code := impl.ScheduleBytes(m)
			expectNumber(t, "the size of the data", int64(len(data)), code, int64(size), impl.ErrNone)
			_, code = impl.ScheduleFromBytes(data)
			expectNumber(t, fmt.Sprint("ScheduleFromBytes of ", size, " bytes"), 0, code, 0, want)
			checkMedlRecovered(t, m)
		}
	}
	largest := largestMedl()
	expectNumber(t, "the size of the largest data", int64(len(dataOfMedl(largest))), 0, 1486, 0)
	checkMedlRecovered(t, largest)
}

// Promise 1, images: each byte of a number is tried at each of its places.
func TestIdsAreRecovered(t *testing.T) {
	for _, m := range []impl.Medl{smallestMedl(), knownMedl(), medlOfSize(28, 4970), medlOfSize(400, 4971)} {
		data := dataOfMedl(m)
		for value := range int64(256) {
			for _, id := range [][]int64{{0, 0, value}, {0, value, 0}, {value, 0, 0}, {value, value ^ 1, 255 - value}, {7, value, 9}, {255, 255, value}} {
				list := joined(id, data[3:])
				number := id[0]*65536 + id[1]*256 + id[2]
				if number == 0 {
					expectNoSchedule(t, list, impl.ErrInvalid)
					expectId(t, imageByReference(list), 0, impl.ErrSyntax)
					continue
				}
				expectSchedule(t, list, withMedlId(m, number), impl.ErrNone)
				expectScheduleBytes(t, withMedlId(m, number), list, impl.ErrNone)
				expectId(t, imageByReference(list), number, impl.ErrNone)
			}
		}
		for _, id := range imageIds() {
			checkMedlRecovered(t, withMedlId(m, id))
		}
		for _, id := range wrongIds() {
			expectBroken(t, withMedlId(m, id))
		}
	}
}

// Promise 1, images: each field of an entry is recovered with each value that it may have.
func TestFieldsAreRecovered(t *testing.T) {
	m := smallestMedl()
	for _, x := range shapes() {
		for duration := leastDuration(x); duration <= 1000; duration += 1 + (duration-leastDuration(x))/9 {
			m.Slots[0].Desc = impl.Descriptor{Node: 0, Kind: x.kind, Size: x.size, Duration: duration, Change: x.kind != impl.FrameCold && duration%2 == 0}
			checkMedlRecovered(t, m)
		}
	}
	for drift := int64(0); drift <= 1000; drift += 3 {
		node := drift % 32
		m.Nodes[0] = impl.NodeInfo{Id: node, Name: edgeNames()[drift%30], Drift: drift}
		m.Slots[0].Desc.Node = node
		checkMedlRecovered(t, m)
	}
}

// codesOf counts the codes with which lists are refused or accepted.
type codesOf map[int64]int

// expectAll fails the test if one of some codes has not been met often enough.
func (c codesOf) expectAll(t *testing.T, fewest int, codes ...int64) {
	t.Helper()
	for _, code := range codes {
		if c[code] < fewest {
			t.Errorf("the lists have the codes %v", c)
		}
	}
}

// otherBytes returns bytes that a byte is changed to.
func otherBytes(value int64, drawn int64) []int64 {
	return []int64{(value + 1) % 256, (value + 255) % 256, value ^ 1, value ^ 128, value ^ 64, 0, 1, 255, drawn}
}

// alteredLists returns lists that differ by little from a byte list: it is cut off at each place, some bytes stand behind the
// end, and at places that are a step apart a byte is changed, left out or put in.
func alteredLists(list []int64, step int, seed uint64) [][]int64 {
	lists := [][]int64{list, joined(list, list), joined(list, []int64{0}), joined(list, []int64{1}), joined(list, []int64{255}), joined(list, mixed(7, 256, seed)), joined(list, repeated(0, 33))}
	for at := range list {
		lists = append(lists, list[:at])
	}
	drawn := mixed(len(list)+1, 256, seed+1)
	for at := int(seed) % step; at <= len(list); at += step {
		for _, value := range []int64{0, 1, drawn[at]} {
			lists = append(lists, slices.Insert(slices.Clone(list), at, value))
		}
		if at < len(list) {
			lists = append(lists, slices.Delete(slices.Clone(list), at, at+1), slices.Insert(slices.Clone(list), at, list[at]))
			for _, value := range otherBytes(list[at], drawn[at]) {
				lists = append(lists, with(list, at, value))
			}
		}
	}
	return lists
}

// imageMedls are schedules with images that are altered.
func imageMedls() []impl.Medl {
	return []impl.Medl{
		smallestMedl(), knownMedl(), slackMedl(), medlOfSize(28, 5000), medlOfSize(29, 5001), medlOfSize(57, 5002), medlOfSize(118, 5003), medlOfSize(260, 5004),
		medlOfSize(867, 5005), medlOfSize(868, 5006), changingMedls()[47], namedMedls()[30], namedMedls()[223],
	}
}

// alteredMedls are schedules with data that are altered, some of which are too many for an image.
func alteredMedls() []impl.Medl {
	return append(imageMedls(), medlOfSize(869, 5007), fullMedls()[4], medlOfSize(1024, 5008))
}

// stepOf returns the step with which a list of a size is altered. It is never a multiple of 7, the size of an entry of Slots.
func stepOf(size int, limit int) int {
	step := 1 + size/limit
	if step%7 == 0 {
		step++
	}
	return step
}

// Promise 11: what is accepted of altered data is well-formed and has these data.
func TestAlteredData(t *testing.T) {
	codes := codesOf{}
	for i, m := range alteredMedls() {
		data := dataOfMedl(m)
		for _, list := range alteredLists(data, stepOf(len(data), 120), uint64(i)+5010) {
			codes[checkSchedule(t, list)]++
		}
	}
	codes.expectAll(t, 400, impl.ErrNone, impl.ErrSyntax, impl.ErrInvalid)
}

// Promise 11: each byte of the data of some schedules is changed to each other one.
func TestAllOtherBytesOfData(t *testing.T) {
	codes := codesOf{}
	for _, m := range []impl.Medl{smallestMedl(), knownMedl(), withMedlId(medlOfSize(64, 5020), 256)} {
		data := dataOfMedl(m)
		for at := range data {
			for value := range int64(256) {
				codes[checkSchedule(t, with(data, at, value))]++
			}
		}
	}
	codes.expectAll(t, 400, impl.ErrNone, impl.ErrSyntax, impl.ErrInvalid)
}

// Promise 11: two bytes are changed at once, so that tables fit each other again.
func TestTwoOtherBytesOfData(t *testing.T) {
	codes := codesOf{}
	for i, m := range alteredMedls() {
		data := dataOfMedl(m)
		places, values := mixed(600, int64(len(data)), uint64(i)+5030), mixed(600, 256, uint64(i)+5050)
		for k := 0; k < 600; k += 2 {
			list := slices.Clone(data)
			for _, j := range []int{k, k + 1} {
				list[places[j]] = otherBytes(list[places[j]], values[j])[values[j]%9]
			}
			codes[checkSchedule(t, list)]++
		}
	}
	codes.expectAll(t, 100, impl.ErrNone, impl.ErrSyntax, impl.ErrInvalid)
}

// Promise 11: lists of bytes at random, of few different bytes, and behind the beginnings of data.
func TestDataAtRandom(t *testing.T) {
	bases := alteredMedls()
	codes := codesOf{}
	for seed := range uint64(12000) {
		size := int(mixed(1, []int64{4, 30, 120, 1025}[seed%4], seed+5100)[0])
		list := mixed(size, []int64{2, 3, 5, 17, 33, 256}[seed%6], seed+5200)
		codes[checkSchedule(t, list)]++
		data := dataOfMedl(bases[seed%uint64(len(bases))])
		cut := int(mixed(1, int64(min(len(data), 1000)), seed+5300)[0])
		codes[checkSchedule(t, joined(data[:cut], list[:min(size, 1024-cut)]))]++
		if cut+size <= len(data) {
			codes[checkSchedule(t, joined(data[:cut], list, data[cut+size:]))]++
		}
	}
	codes.expectAll(t, 20, impl.ErrNone, impl.ErrSyntax, impl.ErrInvalid)
}

// Promise 11: the tables of schedules are put together anew. They are well-formed together if they fit each other.
func TestDataOfOtherTables(t *testing.T) {
	codes := codesOf{}
	list := someMedls()
	for i, a := range list {
		for k, b := range list {
			c := list[(i+k)%len(list)]
			for _, m := range []impl.Medl{
				{Id: 1, Nodes: a.Nodes, Modes: b.Modes, Slots: b.Slots}, {Id: 1, Nodes: a.Nodes, Modes: a.Modes, Slots: b.Slots},
				{Id: 1, Nodes: a.Nodes, Modes: b.Modes, Slots: c.Slots}, {Id: 0, Nodes: a.Nodes, Modes: a.Modes, Slots: a.Slots},
			} {
				if data := dataOfMedl(m); len(data) <= maxBytes && (i+k)%3 == 0 {
					codes[checkSchedule(t, data)]++
				}
			}
		}
	}
	codes.expectAll(t, 20, impl.ErrNone, impl.ErrInvalid)
	// Tables that stand in another order, twice or not at all.
	nodes, modes, entries := bytesOfNodes(2, knownMedl().Nodes), bytesOfModes(2, knownMedl().Modes), bytesOfSlots(6, knownMedl().Slots)
	id := []int64{0, 0, 77}
	for _, parts := range [][][]int64{
		{id}, {id, nodes}, {id, nodes, modes}, {id, nodes, entries}, {id, modes, entries}, {nodes, modes, entries}, {id, entries}, {id, modes},
		{id, nodes, entries, modes}, {id, modes, nodes, entries}, {id, entries, modes, nodes}, {nodes, modes, entries, id}, {id, id, nodes, modes, entries},
		{id, nodes, modes, entries, entries}, {id, nodes, modes, modes, entries}, {id, nodes, nodes, modes, entries}, {id, nodes, modes, entries, id},
		{id[:2], nodes, modes, entries}, {id, nodes, modes, entries, {0}}, {{0}, id, nodes, modes, entries}, {{0, 0}, nodes, modes, entries}, {id, {0}, modes, entries}, {id, nodes, {0}, entries},
	} {
		data := joined(parts...)
		expectNoSchedule(t, data, impl.ErrSyntax)
		checkSchedule(t, data)
	}
	expectNoSchedule(t, joined(id, nodes, modes, []int64{0}), impl.ErrInvalid)
}

func TestShortData(t *testing.T) {
	for _, list := range [][]int64{nil, {}, {0}, {1}, {255}, {0, 0}, {0, 1}, {255, 255}, {0, 0, 0}, {0, 0, 1}, {0, 0, 1, 0}, {0, 0, 1, 1}, {0, 0, 0, 0, 0, 0}, {0, 0, 1, 0, 0, 0}, repeated(0, 7), repeated(1, 22), repeated(255, 1024), repeated(0, 1024)} {
		expectNoSchedule(t, list, impl.ErrSyntax)
	}
	for _, m := range imageMedls() {
		data := dataOfMedl(m)
		for size := range data {
			expectSchedule(t, data[:size], impl.Medl{}, impl.ErrSyntax)
		}
		for _, value := range rising(256) {
			expectSchedule(t, joined(data, []int64{value}), impl.Medl{}, impl.ErrSyntax)
		}
	}
}

// brokenData returns, for a number of each rule but some, data of slackMedl in which this rule alone is broken.
func brokenData(rules ...int64) []int64 {
	m := slackMedl()
	for _, rule := range rules {
		switch rule {
		case 1:
			m.Id = 0
		case 4:
			descriptorOf(&m, 2, 0, 0).Duration, descriptorOf(&m, 2, 1, 0).Duration = 1001, 1001
		default:
			breakers()[rule-1](&m)
		}
	}
	return dataOfMedl(m)
}

// The rules 2 to 4 are those of the tables, so data that break them are no tables. Data that break another one are those of a
// schedule that is not well-formed.
func TestDataThatBreakRules(t *testing.T) {
	for rule := int64(1); rule <= 10; rule++ {
		want := int64(impl.ErrInvalid)
		if rule >= 2 && rule <= 4 {
			want = impl.ErrSyntax
		}
		expectNoSchedule(t, brokenData(rule), want)
		_, code := medlByReference(brokenData(rule))
		expectNumber(t, fmt.Sprint("the reference of broken data of the rule ", rule), 0, code, 0, want)
	}
	all := []int64{1, 5, 6, 7, 8, 9, 10}
	for set := 1; set < 1<<len(all); set++ {
		var broken []int64
		for i, rule := range all {
			if set>>i&1 == 1 {
				broken = append(broken, rule)
			}
		}
		data := brokenData(broken...)
		expectNoSchedule(t, data, impl.ErrInvalid)
		// ErrSyntax comes first, and ErrRange before it.
		expectNoSchedule(t, joined(data, []int64{0}), impl.ErrSyntax)
		expectNoSchedule(t, data[:len(data)-1], impl.ErrSyntax)
		expectNoSchedule(t, brokenData(append(broken, int64(2+set%3))...), impl.ErrSyntax)
		expectNoSchedule(t, joined(data, []int64{256}), impl.ErrRange)
		expectNoSchedule(t, with(data, set%len(data), -1), impl.ErrRange)
	}
}

func TestScheduleFromBytesErrRange(t *testing.T) {
	for _, list := range notBytes() {
		expectNoSchedule(t, list, impl.ErrRange)
	}
	for _, m := range []impl.Medl{smallestMedl(), knownMedl(), medlOfSize(400, 5400)} {
		data := dataOfMedl(m)
		for _, wrong := range wrongBytes() {
			for at := range data {
				expectNoSchedule(t, with(data, at, wrong), impl.ErrRange)
			}
			// These lists are no schedules for other reasons too.
			for _, list := range [][]int64{{wrong}, {0, wrong}, {0, 0, wrong}, {0, 0, 0, wrong}, joined(data, []int64{wrong}), joined(with(data, 3, 0), []int64{wrong}), joined(repeated(0, 3), data[3:], []int64{wrong}), with(data[:len(data)-1], 0, wrong)} {
				expectNoSchedule(t, list, impl.ErrRange)
			}
		}
		expectNoSchedule(t, joined(data, repeated(0, 1024-len(data))), impl.ErrSyntax)
		expectNoSchedule(t, joined(data, repeated(0, 1025-len(data))), impl.ErrRange)
		expectNoSchedule(t, joined(data, repeated(0, 100000)), impl.ErrRange)
	}
}

// ErrInvalid comes before ErrLimit: schedules that are not well-formed are tried also if their data would be too large.
func TestBrokenSchedules(t *testing.T) {
	for _, change := range breakers() {
		expectBroken(t, changed(slackMedl(), change))
	}
	for _, m := range []impl.Medl{{}, {Id: 1}, {Id: 1, Nodes: []impl.NodeInfo{}, Modes: []impl.ModeInfo{}, Slots: []impl.SlotInfo{}}, {Id: 1, Nodes: []impl.NodeInfo{{}}, Modes: []impl.ModeInfo{{}}, Slots: []impl.SlotInfo{{}}}} {
		expectBroken(t, m)
	}
	for _, base := range []impl.Medl{smallestMedl(), medlOfSize(868, 5500), medlOfSize(869, 5501), medlOfSize(1025, 5502), largestMedl()} {
		for _, change := range []func(m *impl.Medl){
			func(m *impl.Medl) { m.Id = 0 }, func(m *impl.Medl) { m.Id = 16777216 }, func(m *impl.Medl) { m.Id = greatest }, func(m *impl.Medl) { m.Id = least },
			func(m *impl.Medl) { m.Nodes = nil }, func(m *impl.Medl) { m.Nodes[0].Drift = greatest }, func(m *impl.Medl) { m.Nodes[0].Name = strings.Repeat("a", 5000) },
			func(m *impl.Medl) { m.Modes[0].Rounds = least }, func(m *impl.Medl) { m.Modes[0].Next = rising(300) }, func(m *impl.Medl) { m.Modes = nil },
			func(m *impl.Medl) { m.Slots[0].Desc.Duration = greatest }, func(m *impl.Medl) { m.Slots[0].Mode = least }, func(m *impl.Medl) { m.Slots = slices.Repeat(m.Slots, 200) },
			func(m *impl.Medl) { m.Slots = m.Slots[1:] },
			func(m *impl.Medl) {
				m.Nodes = slices.DeleteFunc(m.Nodes, func(x impl.NodeInfo) bool { return !x.Passive })
			},
			func(m *impl.Medl) {
				for i := range m.Nodes {
					m.Nodes[i].Passive = true
				}
			},
		} {
			expectBroken(t, changed(base, change))
		}
	}
	for _, m := range medlsWithWrongTables() {
		expectBroken(t, m)
	}
}

// Well-formed schedules with small changes are encoded exactly if they are still well-formed.
func TestSchedulesWithSmallChanges(t *testing.T) {
	numbers := mixed(100000, 1<<30, 5600)
	next, encoded := 0, 0
	draw := func(limit int) int {
		next++
		return int(numbers[next%len(numbers)]) % limit
	}
	for _, base := range slices.Repeat(someMedls(), 40) {
		m := copiedMedl(base)
		changes := smallChanges(draw)
		for range 1 + draw(2) {
			changes[draw(len(changes))](&m)
		}
		if firstByReference(m) != 0 {
			expectBroken(t, m)
			continue
		}
		encoded++
		checkMedlRecovered(t, m)
	}
	if encoded < 200 {
		t.Errorf("%d of the changed schedules are well-formed", encoded)
	}
}

// Promise 11: what is accepted of altered images is well-formed and has this image. The checks are as they were, and then made
// anew.
func TestAlteredImages(t *testing.T) {
	codes := codesOf{}
	for i, m := range imageMedls() {
		image := imageByReference(dataOfMedl(m))
		for _, list := range alteredLists(image, stepOf(len(image), 40), uint64(i)+5700) {
			if len(list) <= 1023 {
				codes[checkDecoded(t, list)]++
				codes[checkDecoded(t, checked(list))]++
			}
		}
	}
	codes.expectAll(t, 150, impl.ErrNone, impl.ErrSyntax, impl.ErrInvalid, impl.ErrDamage)
}

// Promise 11: the images of altered data.
func TestImagesOfAlteredData(t *testing.T) {
	codes := codesOf{}
	for i, m := range alteredMedls() {
		data := dataOfMedl(m)
		for _, list := range alteredLists(data, stepOf(len(data), 40), uint64(i)+5800) {
			if len(list) <= mostData {
				codes[checkDecoded(t, imageByReference(list))]++
			}
		}
	}
	codes.expectAll(t, 150, impl.ErrNone, impl.ErrSyntax, impl.ErrInvalid)
}

// Promise 11: each byte of the image of the smallest schedule is changed to each other one, and its check is made anew. The
// same is done with each byte of a longer image, without new checks.
func TestAllOtherBytesOfImages(t *testing.T) {
	codes := codesOf{}
	image := imageByReference(dataOfMedl(smallestMedl()))
	for at := range image {
		for value := range int64(256) {
			codes[checkDecoded(t, with(image, at, value))]++
			codes[checkDecoded(t, checked(with(image, at, value)))]++
		}
	}
	codes.expectAll(t, 200, impl.ErrNone, impl.ErrSyntax, impl.ErrInvalid, impl.ErrDamage)
	long := imageByReference(dataOfMedl(knownMedl()))
	for at, value := range long {
		for step := int64(1); step < 256; step++ {
			expectDecoded(t, with(long, at, (value+step)%256), impl.Medl{}, impl.ErrDamage)
		}
	}
}

// Promise 11: lists of bytes at random, with and without right checks, and behind the beginnings of images.
func TestImagesAtRandom(t *testing.T) {
	bases := imageMedls()
	codes := codesOf{}
	for seed := range uint64(1500) {
		size := int(mixed(1, []int64{12, 40, 120, 1025}[seed%4], seed+5900)[0])
		list := mixed(size, []int64{2, 3, 17, 256}[seed%4], seed+6000)
		image := imageByReference(dataOfMedl(bases[seed%uint64(len(bases))]))
		cut := int(mixed(1, int64(len(image)), seed+6100)[0])
		tail := joined(image[:cut], list[:min(size, 1023-cut)])
		for _, x := range [][]int64{list, checked(list), tail, checked(tail), imageByReference(list[:min(size, mostData)])} {
			codes[checkDecoded(t, x)]++
		}
	}
	codes.expectAll(t, 20, impl.ErrSyntax, impl.ErrDamage)
}

// damagedMedls are schedules with images of 1 to 31 blocks.
func damagedMedls() []impl.Medl {
	list := []impl.Medl{smallestMedl(), knownMedl(), slackMedl()}
	for _, size := range []int{22, 28, 29, 56, 57, 150, 400, 841, 867, 868} {
		list = append(list, withMedlId(medlOfSize(size, 6200), int64(size)*19001))
	}
	return list
}

// IdOfImage answers as long as the block 0 is whole, also if each other one is damaged. DecodeImage refuses all of them.
func TestIdsOfDamagedImages(t *testing.T) {
	for i, m := range damagedMedls() {
		image := imageByReference(dataOfMedl(m))
		count := len(slicesByReference(image))
		others := slices.Clone(image)
		for k := range count {
			for seed := range uint64(6) {
				damaged := wrongBits(image, someIndices(image, k, seed+uint64(i*100+k))...)
				expectDecoded(t, damaged, impl.Medl{}, impl.ErrDamage)
				if k == 0 {
					expectId(t, damaged, 0, impl.ErrDamage)
				} else {
					expectId(t, damaged, m.Id, impl.ErrNone)
				}
			}
			if k > 0 {
				others = wrongBits(others, someIndices(image, k, uint64(k))...)
			}
		}
		if count > 1 {
			expectDecoded(t, others, impl.Medl{}, impl.ErrDamage)
		}
		expectId(t, others, m.Id, impl.ErrNone)
		expectDecodeErrors(t, wrongBits(others, 17), impl.ErrDamage, impl.ErrDamage)
	}
}

// IdOfImage looks at the block 0 alone, whatever stands behind it, or whether it is the only one.
func TestIdsOfFirstBlocks(t *testing.T) {
	for i, m := range damagedMedls() {
		image := imageByReference(dataOfMedl(m))
		if len(image) < 33 {
			// The block ends with the list. A check number is right also with a 0 behind it.
			expectDecoded(t, joined(image, []int64{0}), impl.Medl{}, impl.ErrSyntax)
			expectId(t, joined(image, []int64{0}), m.Id, impl.ErrNone)
			expectDecodeErrors(t, joined(image, []int64{1}), impl.ErrDamage, impl.ErrDamage)
			expectDecodeErrors(t, image[:len(image)-1], impl.ErrDamage, impl.ErrDamage)
			continue
		}
		for _, size := range []int{33, 34, 36, 37, 38, 65, 66, 67, 1022, 1023, 1024} {
			for _, behind := range [][]int64{repeated(0, 1000), mixed(1000, 256, uint64(i)+6300), slices.Repeat(image, 40)} {
				list := joined(image[:33], behind)[:size]
				expectId(t, list, m.Id, impl.ErrNone)
				checkDecoded(t, list)
				expectId(t, with(list, size-1, 256), 0, impl.ErrRange)
			}
		}
		expectId(t, joined(image[:33], repeated(0, 992)), 0, impl.ErrRange)
		for size := range 33 {
			expectDecodeErrors(t, image[:size], impl.ErrDamage, impl.ErrDamage)
		}
	}
}

// The block 0 has fewer than three bytes of data, exactly three and more.
func TestIdsOfShortBlocks(t *testing.T) {
	for _, data := range [][]int64{nil, {0}, {1}, {255}, {0, 0}, {0, 1}, {1, 0}, {255, 255}, {0, 0, 0}, {0, 0, 0, 0}, {0, 0, 0, 1}, {0, 0, 0, 255, 255}, repeated(0, 28), repeated(0, 29), joined([]int64{0, 0, 0}, repeated(9, 25)), joined([]int64{0, 0, 0}, repeated(9, 100))} {
		expectDecodeErrors(t, imageByReference(data), impl.ErrSyntax, impl.ErrSyntax)
		checkDecoded(t, imageByReference(data))
	}
	for _, id := range imageIds() {
		bytes := bytesByReference(bitsOfText(textOfNumber(id, 24)))
		for size := range 60 {
			image := imageByReference(joined(bytes, mixed(size, 256, uint64(id)+6400)))
			expectId(t, image, id, impl.ErrNone)
			checkDecoded(t, image)
		}
	}
	// Lists of fewer than five bytes have no whole block, whatever check number they end with.
	for size := range 5 {
		for _, list := range [][]int64{repeated(0, size), repeated(255, size), checked(repeated(0, size)), mixed(size, 256, 6410)} {
			expectDecodeErrors(t, list, impl.ErrDamage, impl.ErrDamage)
		}
	}
	expectDecodeErrors(t, nil, impl.ErrDamage, impl.ErrDamage)
	expectDecodeErrors(t, []int64{}, impl.ErrDamage, impl.ErrDamage)
}

// The first byte of the block 0 is tried with all values, and the second one, which IdOfImage does not look at.
func TestIdsOfBlocksWithOtherHeads(t *testing.T) {
	for _, m := range damagedMedls() {
		image := imageByReference(dataOfMedl(m))
		for value := range int64(256) {
			other := checked(with(image, 0, value))
			if value == 0 {
				expectDecoded(t, other, m, impl.ErrNone)
				expectId(t, other, m.Id, impl.ErrNone)
			} else {
				expectDecodeErrors(t, other, impl.ErrSyntax, impl.ErrSyntax)
				expectDecodeErrors(t, with(image, 0, value), impl.ErrDamage, impl.ErrDamage)
			}
			other = checked(with(image, 1, value))
			expectId(t, other, m.Id, impl.ErrNone)
			if value != image[1] {
				expectDecoded(t, other, impl.Medl{}, impl.ErrSyntax)
			}
		}
	}
}

// The errors of images come in their order.
func TestImageErrors(t *testing.T) {
	for _, list := range append(notBytes(), notByteImages()...) {
		expectDecodeErrors(t, list, impl.ErrRange, impl.ErrRange)
	}
	for _, m := range damagedMedls() {
		image := imageByReference(dataOfMedl(m))
		last := len(image) - 1
		for _, wrong := range wrongBytes() {
			for _, at := range []int{0, 1, 2, 4, last / 2, last} {
				// A byte that is none is told before damage, and before a block that is none.
				expectDecodeErrors(t, with(image, at, wrong), impl.ErrRange, impl.ErrRange)
				expectDecodeErrors(t, with(checked(with(image, 0, 1)), max(at, 1), wrong), impl.ErrRange, impl.ErrRange)
			}
			expectDecodeErrors(t, joined(image, []int64{wrong}), impl.ErrRange, impl.ErrRange)
		}
		// Damage is told before the other errors.
		noImage := checked(with(image, 0, 1))
		noId := imageByReference(joined([]int64{0, 0, 0}, dataOfMedl(m)[3:]))
		noTable := imageByReference(with(dataOfMedl(m), 3, 0))
		expectDecodeErrors(t, noImage, impl.ErrSyntax, impl.ErrSyntax)
		expectDecodeErrors(t, noId, impl.ErrInvalid, impl.ErrSyntax)
		expectDecoded(t, noTable, impl.Medl{}, impl.ErrSyntax)
		expectId(t, noTable, m.Id, impl.ErrNone)
		for _, other := range [][]int64{noImage, noId, noTable} {
			expectDecodeErrors(t, wrongBits(other, 3), impl.ErrDamage, impl.ErrDamage)
			expectDecoded(t, wrongBits(other, len(other)*8-1), impl.Medl{}, impl.ErrDamage)
		}
		// A list that is no image is told before a schedule that is not well-formed.
		expectDecodeErrors(t, checked(with(noId, 1, noId[1]^2)), impl.ErrSyntax, impl.ErrSyntax)
		// An end that is none is told before this too.
		expectDecodeErrors(t, imageByReference(joined([]int64{0, 0, 0}, dataOfMedl(m)[3:len(dataOfMedl(m))-1])), impl.ErrSyntax, impl.ErrSyntax)
	}
	for rule := int64(5); rule <= 10; rule++ {
		image := imageByReference(brokenData(rule))
		expectDecoded(t, image, impl.Medl{}, impl.ErrInvalid)
		expectId(t, image, 16777215, impl.ErrNone)
	}
}

func TestKnownImageTexts(t *testing.T) {
	for _, x := range []struct {
		image []int64
		text  string
	}{
		{nil, ""}, {[]int64{}, ""}, {[]int64{0}, "00"}, {[]int64{9}, "09"}, {[]int64{10}, "0a"}, {[]int64{15}, "0f"}, {[]int64{16}, "10"}, {[]int64{159}, "9f"}, {[]int64{160}, "a0"}, {[]int64{255}, "ff"},
		{[]int64{0, 255, 16}, "00ff10"}, {[]int64{0x12, 0x34, 0x56, 0x78, 0x9a, 0xbc, 0xde, 0xf0}, "123456789abcdef0"}, {[]int64{0xfe, 0xdc, 0xba, 0x98, 0x76, 0x54, 0x32, 0x10}, "fedcba9876543210"},
		{[]int64{0, 0, 0}, "000000"}, {imageByReference(nil), "00806febcc"},
	} {
		expectImageText(t, x.image, x.text)
		expectImageRead(t, x.text, x.image, true)
	}
}

// Promise 1, images: lists are recovered from their texts, of each size and with each byte at each place.
func TestImageTextsAreRecovered(t *testing.T) {
	recover := func(list []int64) {
		text := textOfImage(list)
		expectImageText(t, list, text)
		expectImageRead(t, text, list, true)
	}
	for size := range maxBytes + 1 {
		recover(mixed(size, 256, uint64(size)+6500))
	}
	for value := range int64(256) {
		recover([]int64{value})
		recover(repeated(value, maxBytes))
		for at := range 5 {
			recover(with(mixed(5, 256, 6501), at, value))
		}
		for other := range int64(256) {
			recover([]int64{value, other})
		}
	}
	for _, m := range damagedMedls() {
		recover(imageByReference(dataOfMedl(m)))
		recover(dataOfMedl(m))
	}
}

func TestTextsOfNoBytes(t *testing.T) {
	for _, list := range append(notBytes(), notByteImages()...) {
		expectImageText(t, list, "")
	}
	for _, wrong := range wrongBytes() {
		for size := 1; size <= 40; size++ {
			for at := range size {
				expectImageText(t, with(repeated(0x5a, size), at, wrong), "")
			}
		}
	}
	expectImageText(t, repeated(0, 1025), "")
	expectImageText(t, repeated(0, 100000), "")
}

// Texts with a character that is no digit at each place, with an odd number of digits, and with too many.
func TestReadImageTextRefuses(t *testing.T) {
	for _, text := range []string{
		"0", "f", "123", "00f", "0x00", "0X00", "x0", "+0", "-1", "+f", "-f", " 0", "0 ", " 00", "00 ", "0 0", "00 00", "\n", "00\n", "\n00", "0\n", "\t0", "\r\n", "F0", "0F", "AB", "aB", "Ab", "A0", "FF", "ff0", "g0", "0g", "zz",
		"/0", "0/", ":0", "0:", "@0", "0@", "G0", "`0", "0`", "0b1", "0o", "h0", "..", "1.", "1e+1", "_0", "0_", "0_0_", "\x000", "0\x00", "\x00\x00", "é", "aé", "éa", "\xff\xff", "0\xff", "\x80a", "a\xe1", "\u0660", "\uff11", "\uff41", "a\u0301", "\xb0\xb1", "\xe1\xe2", "\x30\xb0", "1f ", "%41", "\\x41", "\"00\"", "00,00", "0;", "00;00;",
	} {
		expectImageRead(t, text, nil, false)
	}
	for c := range 256 {
		for size := 1; size <= 8; size++ {
			for at := range size {
				text := strings.Repeat("5", at) + string([]byte{byte(c)}) + strings.Repeat("5", size-at-1)
				want, ok := imageOfText(text)
				expectImageRead(t, text, want, ok)
			}
		}
		for other := range 256 {
			text := string([]byte{byte(c), byte(other)})
			want, ok := imageOfText(text)
			expectImageRead(t, text, want, ok)
		}
	}
	for size := 0; size <= 2200; size++ {
		text := strings.Repeat("0f3c", 600)[:size]
		want, ok := imageOfText(text)
		if ok != (size%2 == 0 && size <= 2048) {
			t.Errorf("the reference says %v of %d digits", ok, size)
		}
		expectImageRead(t, text, want, ok)
	}
	expectImageRead(t, strings.Repeat("a", 2049), nil, false)
	expectImageRead(t, strings.Repeat("a", 2050), nil, false)
	expectImageRead(t, strings.Repeat("a", 1<<20), nil, false)
}

// Whatever is accepted is the text of its bytes.
func TestReadImageTextOfManyTexts(t *testing.T) {
	accepted := 0
	const characters = "0123456789abcdefABCDEFg x+-"
	for seed := range uint64(20000) {
		var text strings.Builder
		for _, index := range mixed(int(seed%9), []int64{16, 16, 17, 27}[seed/9%4], seed+6600) {
			text.WriteByte(characters[index])
		}
		want, ok := imageOfText(text.String())
		expectImageRead(t, text.String(), want, ok)
		if image, ok := impl.ReadImageText(text.String()); ok {
			expectImageText(t, image, text.String())
			accepted++
		}
	}
	if accepted < 3000 || accepted > 15000 {
		t.Errorf("%d texts are accepted", accepted)
	}
}

// The same call answers the same each time.
func TestImagesAnswerTheSame(t *testing.T) {
	for _, m := range []impl.Medl{smallestMedl(), slackMedl(), medlOfSize(868, 6700)} {
		data := dataOfMedl(m)
		image := imageByReference(data)
		text := textOfImage(image)
		for range 40 {
			expectScheduleBytes(t, m, data, impl.ErrNone)
			expectSchedule(t, data, m, impl.ErrNone)
			expectSchedule(t, joined(data, []int64{0}), impl.Medl{}, impl.ErrSyntax)
			expectSchedule(t, joined([]int64{0, 0, 0}, data[3:]), impl.Medl{}, impl.ErrInvalid)
			expectEncoded(t, m, image, impl.ErrNone)
			expectEncoded(t, withMedlId(m, 0), nil, impl.ErrInvalid)
			expectDecoded(t, image, m, impl.ErrNone)
			expectDecodeErrors(t, wrongBits(image, 20), impl.ErrDamage, impl.ErrDamage)
			expectId(t, image, m.Id, impl.ErrNone)
			expectImageText(t, image, text)
			expectImageRead(t, text, image, true)
		}
	}
}

// medlLists are the functions that return the bytes of a schedule.
func medlLists() map[string]func(m impl.Medl) []int64 {
	return map[string]func(m impl.Medl) []int64{
		"ScheduleBytes": func(m impl.Medl) []int64 { return first(impl.ScheduleBytes(m)) },
		"EncodeImage":   func(m impl.Medl) []int64 { return first(impl.EncodeImage(m)) },
	}
}

func TestScheduleBytesLeaveMemoryAlone(t *testing.T) {
	for _, m := range append(medlsOfMemory(), smallestMedl(), largestMedl(), medlOfSize(868, 6800), medlOfSize(869, 6801), medlOfSize(1025, 6802)) {
		for name, call := range medlLists() {
			g := guardMedl(m)
			one, other := call(g.m), call(g.m)
			want := slices.Clone(one)
			if !slices.Equal(one, other) {
				t.Errorf("%s %s: a second call returned another result", name, nameOfMedl(m))
			}
			g.expectUntouched(t, name)
			fill(other[:cap(other)], mark)
			g.expectUntouched(t, name+": writing to the result")
			g.overwrite()
			if !slices.Equal(one, want) {
				t.Errorf("%s %s: the result shares memory with the schedule or another result", name, nameOfMedl(m))
			}
		}
	}
}

// listsOfSchedules are data and images of schedules, and lists that differ from them by little.
func listsOfSchedules() [][]int64 {
	lists := append(memoryLists(), []int64{}, []int64{256}, repeated(0, 22))
	for i, m := range append(damagedMedls(), changingMedls()[20:40]...) {
		data := dataOfMedl(m)
		for _, list := range [][]int64{data, imageByReference(data)} {
			lists = append(lists, list, list[:len(list)-1], joined(list, []int64{0}), with(list, i%len(list), -1), with(list, 0, 1), checked(with(list, len(list)/2, 9)))
		}
		lists = append(lists, imageByReference(joined([]int64{0, 0, 0}, data[3:])), joined([]int64{0, 0, 0}, data[3:]))
	}
	return lists
}

func TestReadSchedulesLeaveMemoryAlone(t *testing.T) {
	for name, call := range map[string]func(list []int64) (impl.Medl, int64){"ScheduleFromBytes": impl.ScheduleFromBytes, "DecodeImage": impl.DecodeImage} {
		found := 0
		for _, list := range listsOfSchedules() {
			g := guard(list)
			one, code := call(g.list)
			other, otherCode := call(g.list)
			want := copiedMedl(one)
			if code != otherCode || !sameMedls(other, want) {
				t.Errorf("%s %v: a second call returned another result", name, list)
			}
			expectUntouched(t, name, []guarded{g})
			overwriteMedl(t, name, other, want)
			expectUntouched(t, name+": writing to the result", []guarded{g})
			fill(g.array, mark)
			if !sameMedls(one, want) {
				t.Errorf("%s %v: the result shares memory with the list or another result", name, list)
			}
			overwriteMedl(t, name, one, want)
			if code == impl.ErrNone {
				found++
			} else if one.Id != 0 || len(one.Nodes)+len(one.Modes)+len(one.Slots) != 0 {
				t.Errorf("%s %v: %s beside the code %d", name, list, nameOfMedl(one), code)
			}
		}
		if found < 20 {
			t.Errorf("%s: %d of the lists are those of schedules", name, found)
		}
	}
}

func TestImageTextsLeaveMemoryAlone(t *testing.T) {
	for _, list := range listsOfSchedules() {
		checkMemory(t, "IdOfImage "+shortened(list), func(l [][]int64) []int64 { id, code := impl.IdOfImage(l[0]); return []int64{id, code} }, list)
		checkMemory(t, "ImageText "+shortened(list), func(l [][]int64) []int64 { return bytesOfString(impl.ImageText(l[0])) }, list)
	}
	for _, list := range [][]int64{nil, {7}, {1, 2, 3}, mixed(300, 256, 6900), mixed(1024, 256, 6901)} {
		text := textOfImage(list)
		one, _ := impl.ReadImageText(text)
		two, _ := impl.ReadImageText(text)
		fill(two[:cap(two)], mark)
		expectList(t, "ReadImageText after writing to another result", one, 0, list, 0)
		fill(one[:cap(one)], mark)
		expectImageRead(t, text, list, true)
	}
}

// What is written into a result changes no other one, also if that was made of it.
func TestImagesKeepNothing(t *testing.T) {
	for _, m := range damagedMedls() {
		data, _ := impl.ScheduleBytes(m)
		read, _ := impl.ScheduleFromBytes(data)
		image, _ := impl.EncodeImage(read)
		decoded, _ := impl.DecodeImage(image)
		again, _ := impl.ScheduleBytes(decoded)
		fill(data[:cap(data)], mark)
		overwriteMedl(t, "ScheduleFromBytes", read, m)
		fill(image[:cap(image)], mark)
		overwriteMedl(t, "DecodeImage", decoded, m)
		expectList(t, "the data after writing to all other results", again, 0, dataOfMedl(m), 0)
		checkMedlRecovered(t, m)
	}
}
