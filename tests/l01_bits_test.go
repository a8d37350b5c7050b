package tests

import (
	"fmt"
	"slices"
	"strings"
	"testing"

	"loop.example/g00833/impl"
)

const maxBytes = impl.MaxBits / 8

// notBits are lists that are no bit lists: a wrong element at the start, inside and at the end, and one bit too many.
func notBits() [][]int64 {
	lists := [][]int64{repeated(0, impl.MaxBits+1), repeated(1, impl.MaxBits+1), repeated(0, 2*impl.MaxBits)}
	for _, wrong := range []int64{2, -1, 255, 256, 1 << 32, 1<<32 + 1, greatest, least, least + 1} {
		lists = append(lists, []int64{wrong}, []int64{wrong, 0, 1}, []int64{0, wrong, 1}, []int64{0, 1, wrong},
			with(repeated(0, 8), 7, wrong), with(repeated(1, impl.MaxBits), impl.MaxBits-1, wrong))
	}
	return lists
}

// notBytes are lists that are no byte lists.
func notBytes() [][]int64 {
	lists := [][]int64{repeated(0, maxBytes+1), repeated(255, maxBytes+1), repeated(1, impl.MaxBits)}
	for _, wrong := range []int64{256, -1, -256, 1 << 32, 1<<32 + 5, greatest, least} {
		lists = append(lists, []int64{wrong}, []int64{wrong, 0, 255}, []int64{0, wrong, 255}, []int64{0, 255, wrong},
			with(repeated(9, maxBytes), maxBytes-1, wrong))
	}
	return lists
}

func TestConstantsOfBits(t *testing.T) {
	got := []int64{impl.ErrNone, impl.ErrInvalid, impl.ErrRange, impl.ErrLimit, impl.ErrNotFound, impl.ErrState, impl.ErrSyntax, impl.ErrDamage, impl.MaxBits, impl.MaxWidth}
	want := []int64{0, 1, 2, 3, 4, 5, 6, 7, 8192, 40}
	expectList(t, "the constants", got, 0, want, 0)
}

func TestIsBits(t *testing.T) {
	for _, list := range [][]int64{nil, {}, {0}, {1}, {0, 1, 1, 0}, repeated(0, impl.MaxBits), repeated(1, impl.MaxBits)} {
		if !impl.IsBits(list) {
			t.Errorf("IsBits(%s) is false", shortened(list))
		}
	}
	for _, list := range notBits() {
		if impl.IsBits(list) {
			t.Errorf("IsBits(%s) is true", shortened(list))
		}
	}
}

func TestIsBytes(t *testing.T) {
	for _, list := range [][]int64{nil, {}, {0}, {255}, {1, 254, 128, 127}, repeated(0, maxBytes), repeated(255, maxBytes)} {
		if !impl.IsBytes(list) {
			t.Errorf("IsBytes(%s) is false", shortened(list))
		}
	}
	for _, list := range notBytes() {
		if impl.IsBytes(list) {
			t.Errorf("IsBytes(%s) is true", shortened(list))
		}
	}
}

func TestAppendNumber(t *testing.T) {
	zeros := repeated(0, impl.MaxBits)
	for _, c := range []struct {
		list         []int64
		value, width int64
		want         []int64
	}{
		{[]int64{1}, 5, 4, []int64{1, 0, 1, 0, 1}},
		{nil, 6, 3, []int64{1, 1, 0}},
		{[]int64{}, 1, 1, []int64{1}},
		{nil, 0, 2, []int64{0, 0}},
		{nil, 0, 0, nil},
		{[]int64{1, 0}, 0, 0, []int64{1, 0}},
		{[]int64{0}, 1<<40 - 1, 40, joined([]int64{0}, repeated(1, 40))},
		{[]int64{1}, 1 << 39, 40, joined([]int64{1, 1}, repeated(0, 39))},
		{[]int64{1}, 0, 40, joined([]int64{1}, repeated(0, 40))},
		{zeros, 0, 0, zeros},
		{zeros[1:], 1, 1, joined(zeros[1:], []int64{1})},
		{zeros[40:], 1<<40 - 1, 40, joined(zeros[40:], repeated(1, 40))},
	} {
		got, code := impl.AppendNumber(c.list, c.value, c.width)
		expectList(t, fmt.Sprint("AppendNumber ", shortened(c.list), c.value, c.width), got, code, c.want, impl.ErrNone)
	}
}

func TestAppendNumberAtTheEndsOfEachWidth(t *testing.T) {
	for width := int64(0); width <= impl.MaxWidth; width++ {
		ones := repeated(1, int(width))
		got, code := impl.AppendNumber([]int64{0}, 1<<width-1, width)
		expectList(t, fmt.Sprint("the greatest value of width ", width), got, code, joined([]int64{0}, ones), impl.ErrNone)
		got, code = impl.AppendNumber([]int64{0}, 0, width)
		expectList(t, fmt.Sprint("the value 0 in width ", width), got, code, repeated(0, int(width)+1), impl.ErrNone)
		for _, value := range []int64{1 << width, 1<<width + 1, -1, least, greatest} {
			got, code = impl.AppendNumber([]int64{0}, value, width)
			expectList(t, fmt.Sprint("the value ", value, " in width ", width), got, code, nil, impl.ErrRange)
		}
	}
}

func TestAppendNumberErrors(t *testing.T) {
	full := repeated(1, impl.MaxBits)
	for _, c := range []struct {
		list               []int64
		value, width, code int64
	}{
		{nil, 0, 41, impl.ErrRange},
		{nil, 1 << 40, 41, impl.ErrRange},
		{nil, 0, 63, impl.ErrRange},
		{nil, 0, 64, impl.ErrRange},
		{nil, 0, -1, impl.ErrRange},
		{nil, 0, greatest, impl.ErrRange},
		{nil, 0, least, impl.ErrRange},
		{nil, 1, 0, impl.ErrRange},
		{full, 0, 1, impl.ErrLimit},
		{full, 0, 40, impl.ErrLimit},
		{full[1:], 3, 2, impl.ErrLimit},
		{full[39:], 5, 40, impl.ErrLimit},
		{full, 2, 1, impl.ErrRange},
		{full, 1, 0, impl.ErrRange},
		{full, 0, 41, impl.ErrRange},
		{full, 0, greatest, impl.ErrRange},
		{full, 0, least, impl.ErrRange},
	} {
		got, code := impl.AppendNumber(c.list, c.value, c.width)
		expectList(t, fmt.Sprint("AppendNumber ", shortened(c.list), c.value, c.width), got, code, nil, c.code)
	}
	for _, list := range notBits() {
		for _, width := range []int64{0, 3, 40, 41, -1, least} {
			for _, value := range []int64{0, 9, -1, greatest} {
				got, code := impl.AppendNumber(list, value, width)
				expectList(t, fmt.Sprint("AppendNumber ", shortened(list), value, width), got, code, nil, impl.ErrInvalid)
			}
		}
	}
}

// Every index from before the list to behind it is tried with every width.
func TestNumberAt(t *testing.T) {
	list := mixed(50, 2, 1)
	for at := int64(-3); at <= 53; at++ {
		for width := int64(-2); width <= 43; width++ {
			want, wantCode := int64(0), int64(impl.ErrRange)
			if width >= 0 && width <= 40 && at >= 0 && at+width <= 50 {
				wantCode = impl.ErrNone
				for _, bit := range list[at : at+width] {
					want = 2*want + bit
				}
			}
			got, code := impl.NumberAt(list, at, width)
			expectNumber(t, fmt.Sprint("NumberAt ", at, " ", width), got, code, want, wantCode)
		}
	}
}

func TestNumberAtTheEnds(t *testing.T) {
	full := joined(repeated(0, impl.MaxBits-40), repeated(1, 40))
	for _, c := range []struct {
		list                  []int64
		at, width, want, code int64
	}{
		{[]int64{1, 0, 1, 0, 1}, 1, 4, 5, impl.ErrNone},
		{nil, 0, 0, 0, impl.ErrNone},
		{[]int64{}, 0, 0, 0, impl.ErrNone},
		{nil, 0, 1, 0, impl.ErrRange},
		{nil, 1, 0, 0, impl.ErrRange},
		{nil, -1, 0, 0, impl.ErrRange},
		{nil, -1, 1, 0, impl.ErrRange},
		{[]int64{1}, 1, 0, 0, impl.ErrNone},
		{[]int64{1}, 1, 1, 0, impl.ErrRange},
		{[]int64{1}, 2, 0, 0, impl.ErrRange},
		{full, impl.MaxBits - 40, 40, 1<<40 - 1, impl.ErrNone},
		{full, impl.MaxBits - 41, 40, 1<<39 - 1, impl.ErrNone},
		{full, impl.MaxBits - 39, 40, 0, impl.ErrRange},
		{full, impl.MaxBits, 0, 0, impl.ErrNone},
		{full, impl.MaxBits + 1, 0, 0, impl.ErrRange},
		{full, 0, 41, 0, impl.ErrRange},
		{full, 0, -1, 0, impl.ErrRange},
		{full, impl.MaxBits, -1, 0, impl.ErrRange},
		{full, 1, greatest, 0, impl.ErrRange},
		{full, 1, least, 0, impl.ErrRange},
		{full, greatest, 0, 0, impl.ErrRange},
		{full, greatest, 1, 0, impl.ErrRange},
		{full, greatest, 40, 0, impl.ErrRange},
		{full, greatest, greatest, 0, impl.ErrRange},
		{full, least, 0, 0, impl.ErrRange},
		{full, least, 40, 0, impl.ErrRange},
		{full, least, least, 0, impl.ErrRange},
	} {
		got, code := impl.NumberAt(c.list, c.at, c.width)
		expectNumber(t, fmt.Sprint("NumberAt ", shortened(c.list), c.at, c.width), got, code, c.want, c.code)
	}
}

func TestNumberAtOfNoBitList(t *testing.T) {
	for _, list := range notBits() {
		for _, at := range []int64{0, 1, -1, greatest, least} {
			for _, width := range []int64{0, 1, 41, -1} {
				got, code := impl.NumberAt(list, at, width)
				expectNumber(t, fmt.Sprint("NumberAt ", shortened(list), at, width), got, code, 0, impl.ErrInvalid)
			}
		}
	}
}

func TestBytesToBits(t *testing.T) {
	for _, c := range []struct {
		list []int64
		want string
	}{
		{nil, ""},
		{[]int64{}, ""},
		{[]int64{0}, "00000000"},
		{[]int64{5}, "00000101"},
		{[]int64{255}, "11111111"},
		{[]int64{128, 1, 170}, "100000000000000110101010"},
		{repeated(129, maxBytes), strings.Repeat("10000001", maxBytes)},
	} {
		got, code := impl.BytesToBits(c.list)
		expectList(t, "BytesToBits "+shortened(c.list), got, code, bitsOfText(c.want), impl.ErrNone)
	}
	for _, list := range notBytes() {
		got, code := impl.BytesToBits(list)
		expectList(t, "BytesToBits "+shortened(list), got, code, nil, impl.ErrInvalid)
	}
}

func TestBitsToBytes(t *testing.T) {
	for _, c := range []struct {
		bits string
		want []int64
	}{
		{"", nil},
		{"00000000", []int64{0}},
		{"00000101", []int64{5}},
		{"11111111", []int64{255}},
		{"100000000000000110101010", []int64{128, 1, 170}},
		{strings.Repeat("01111110", maxBytes), repeated(126, maxBytes)},
	} {
		got, code := impl.BitsToBytes(bitsOfText(c.bits))
		expectList(t, "BitsToBytes "+c.bits, got, code, c.want, impl.ErrNone)
	}
	for _, list := range notBits() {
		got, code := impl.BitsToBytes(list)
		expectList(t, "BitsToBytes "+shortened(list), got, code, nil, impl.ErrInvalid)
	}
}

func TestBitsToBytesOfOtherLengths(t *testing.T) {
	for _, size := range []int{1, 2, 3, 4, 5, 6, 7, 9, 12, 15, 17, impl.MaxBits - 7, impl.MaxBits - 4, impl.MaxBits - 1} {
		got, code := impl.BitsToBytes(repeated(1, size))
		expectList(t, fmt.Sprint("BitsToBytes of ", size, " bits"), got, code, nil, impl.ErrState)
		got, code = impl.BitsToBytes(with(repeated(1, size), size-1, 2))
		expectList(t, fmt.Sprint("BitsToBytes of ", size, " elements"), got, code, nil, impl.ErrInvalid)
	}
}

func TestFlipBits(t *testing.T) {
	zeros, ones := repeated(0, impl.MaxBits), repeated(1, impl.MaxBits)
	all := make([]int64, impl.MaxBits)
	for i := range all {
		all[i] = int64(i)
	}
	for _, c := range []struct{ list, indices, want []int64 }{
		{[]int64{0, 0, 1}, []int64{0, 2}, []int64{1, 0, 0}},
		{[]int64{0, 1, 1}, []int64{0, 1, 2}, []int64{1, 0, 0}},
		{[]int64{1, 0}, nil, []int64{1, 0}},
		{[]int64{1, 0}, []int64{}, []int64{1, 0}},
		{[]int64{1, 0}, []int64{1}, []int64{1, 1}},
		{nil, nil, nil},
		{[]int64{}, []int64{}, nil},
		{zeros, all, ones},
		{ones, all, zeros},
		{zeros, []int64{0, impl.MaxBits - 1}, with(with(zeros, 0, 1), impl.MaxBits-1, 1)},
	} {
		got, code := impl.FlipBits(c.list, c.indices)
		expectList(t, "FlipBits "+shortened(c.list)+shortened(c.indices), got, code, c.want, impl.ErrNone)
	}
}

func TestFlipBitsErrors(t *testing.T) {
	list := []int64{0, 1, 0, 1}
	wrong := [][]int64{{4}, {5}, {-1}, {greatest}, {least}, {0, 0}, {3, 3}, {1, 0}, {0, 2, 1}, {0, 1, 2, 2}, {0, 4}, {0, 1, 2, 3, 4}, {-1, 0}, {0, -1}, {least, 0}, {0, greatest}, {0, 1 << 32}, {1<<32 + 1}}
	for _, indices := range wrong {
		got, code := impl.FlipBits(list, indices)
		expectList(t, "FlipBits "+shortened(indices), got, code, nil, impl.ErrRange)
	}
	for _, none := range [][]int64{nil, {}} {
		got, code := impl.FlipBits(none, []int64{0})
		expectList(t, "FlipBits of the empty list", got, code, nil, impl.ErrRange)
	}
	full := repeated(0, impl.MaxBits)
	got, code := impl.FlipBits(full, []int64{0, impl.MaxBits})
	expectList(t, "FlipBits past the end of the longest list", got, code, nil, impl.ErrRange)
	for _, list := range notBits() {
		for _, indices := range append(wrong, nil, []int64{0}) {
			got, code := impl.FlipBits(list, indices)
			expectList(t, "FlipBits "+shortened(list)+shortened(indices), got, code, nil, impl.ErrInvalid)
		}
	}
}

func TestDifferingBits(t *testing.T) {
	zeros := repeated(0, impl.MaxBits)
	for _, c := range []struct{ a, b, want []int64 }{
		{[]int64{0, 1}, []int64{1, 1}, []int64{0}},
		{[]int64{0, 1, 0}, []int64{1, 1, 1}, []int64{0, 2}},
		{[]int64{0, 1, 0}, []int64{0, 1, 0}, nil},
		{[]int64{1, 0, 1}, []int64{0, 1, 0}, []int64{0, 1, 2}},
		{nil, nil, nil},
		{nil, []int64{}, nil},
		{zeros, with(with(zeros, 0, 1), impl.MaxBits-1, 1), []int64{0, impl.MaxBits - 1}},
	} {
		got, code := impl.DifferingBits(c.a, c.b)
		expectList(t, "DifferingBits "+shortened(c.a)+shortened(c.b), got, code, c.want, impl.ErrNone)
	}
	same := []int64{1, 0, 1}
	got, code := impl.DifferingBits(same, same)
	expectList(t, "DifferingBits of a list and itself", got, code, nil, impl.ErrNone)
}

func TestDifferingBitsErrors(t *testing.T) {
	full := repeated(1, impl.MaxBits)
	for _, c := range []struct{ a, b []int64 }{
		{nil, []int64{0}},
		{[]int64{0}, nil},
		{[]int64{0, 1}, []int64{0, 1, 1}},
		{full, full[1:]},
		{full[1:], full},
	} {
		got, code := impl.DifferingBits(c.a, c.b)
		expectList(t, "DifferingBits "+shortened(c.a)+shortened(c.b), got, code, nil, impl.ErrState)
	}
	for _, wrong := range notBits() {
		for _, other := range [][]int64{nil, {0}, repeated(0, min(len(wrong), impl.MaxBits)), wrong, {0, 2}} {
			got, code := impl.DifferingBits(wrong, other)
			expectList(t, "DifferingBits "+shortened(wrong)+shortened(other), got, code, nil, impl.ErrInvalid)
			got, code = impl.DifferingBits(other, wrong)
			expectList(t, "DifferingBits "+shortened(other)+shortened(wrong), got, code, nil, impl.ErrInvalid)
		}
	}
}

func TestBitsText(t *testing.T) {
	for _, text := range []string{"", "0", "1", "01", "10", "0011010", strings.Repeat("01", impl.MaxBits/2)} {
		if got := impl.BitsText(bitsOfText(text)); got != text {
			t.Errorf("BitsText: %q, want %q", got, text)
		}
	}
	if got := impl.BitsText(nil); got != "" {
		t.Errorf("BitsText of nil: %q", got)
	}
	for _, list := range notBits() {
		if got := impl.BitsText(list); got != "" {
			t.Errorf("BitsText %s: %q", shortened(list), got)
		}
	}
}

func TestReadBits(t *testing.T) {
	for _, text := range []string{"", "0", "1", "01", "10", "0011010", strings.Repeat("1", impl.MaxBits), strings.Repeat("01", impl.MaxBits/2)} {
		got, ok := impl.ReadBits(text)
		if !ok || !slices.Equal(got, bitsOfText(text)) {
			t.Errorf("ReadBits %q: %s, %v", text, shortened(got), ok)
		}
	}
}

func TestReadBitsOfOtherTexts(t *testing.T) {
	long := strings.Repeat("1", impl.MaxBits)
	for _, text := range []string{"2", "/", "012", "210", "0 1", " 01", "01 ", "01\n", "\n", "0,1", "-1", "+1", "0x1", "a", "\x00", "\x01", "\xff", "\xb1", "é", "０", "１", "1\x00", long + "0", long + long, long[1:] + "2", "x" + long[1:]} {
		got, ok := impl.ReadBits(text)
		if ok || len(got) != 0 {
			t.Errorf("ReadBits %.40q: %s, %v", text, shortened(got), ok)
		}
	}
	for c := range 256 {
		got, ok := impl.ReadBits("0" + string([]byte{byte(c)}) + "1")
		if want := c == '0' || c == '1'; ok != want || ok != (len(got) == 3) {
			t.Errorf("ReadBits with the byte %d: %s, %v", c, shortened(got), ok)
		}
	}
}

// Promise 1, numbers: each of several numbers is read from where it has been written, whatever stands around it.
func TestNumbersAreReadWhereTheyAreWritten(t *testing.T) {
	for width := int64(0); width <= impl.MaxWidth; width++ {
		values := []int64{0, 1, 2, 1<<width - 1, 1 << width >> 1, 1<<width/3 + 1, 0x5A5A5A5A5A}
		var list, starts, written []int64
		for i, value := range values {
			list = joined(list, mixed(i, 2, uint64(width)))
			value &= 1<<width - 1
			starts, written = append(starts, int64(len(list))), append(written, value)
			longer, code := impl.AppendNumber(list, value, width)
			if code != impl.ErrNone || len(longer) != len(list)+int(width) || !slices.Equal(longer[:len(list)], list) {
				t.Fatalf("AppendNumber %d in width %d to %s: %s, code %d", value, width, shortened(list), shortened(longer), code)
			}
			list = longer
		}
		for i, start := range starts {
			got, code := impl.NumberAt(list, start, width)
			expectNumber(t, fmt.Sprint("the number ", i, " in width ", width), got, code, written[i], impl.ErrNone)
		}
	}
}

// Promise 1, numbers: all of up to ten bits, with the bits that strconv writes.
func TestNumbersHaveTheirBits(t *testing.T) {
	for width := 1; width <= 10; width++ {
		for value := int64(0); value < 1<<width; value++ {
			list, code := impl.AppendNumber(nil, value, int64(width))
			expectList(t, fmt.Sprint("AppendNumber ", value, " ", width), list, code, bitsOfText(textOfNumber(value, width)), impl.ErrNone)
			got, code := impl.NumberAt(list, 0, int64(width))
			expectNumber(t, fmt.Sprint("NumberAt of ", value), got, code, value, impl.ErrNone)
		}
	}
}

// Promise 1, bytes: byte lists are recovered from their bits, and bit lists of whole bytes from their bytes.
func TestBytesAreReadFromTheirBits(t *testing.T) {
	lists := [][]int64{nil, mixed(3, 256, 4), mixed(maxBytes, 256, 5), repeated(0, maxBytes), repeated(255, maxBytes)}
	for value := range int64(256) {
		lists = append(lists, []int64{value}, []int64{255 - value, value, 17})
	}
	for _, list := range lists {
		bits, code := impl.BytesToBits(list)
		if code != impl.ErrNone || len(bits) != 8*len(list) {
			t.Fatalf("BytesToBits %s: %s, code %d", shortened(list), shortened(bits), code)
		}
		got, code := impl.BitsToBytes(bits)
		expectList(t, "BitsToBytes of BytesToBits", got, code, list, impl.ErrNone)
		for i, value := range list {
			number, code := impl.NumberAt(bits, int64(8*i), 8)
			expectNumber(t, fmt.Sprint("the byte ", i, " of ", shortened(list)), number, code, value, impl.ErrNone)
		}
	}
	for _, size := range []int{0, 8, 16, 64, impl.MaxBits} {
		list := mixed(size, 2, 6)
		bytes, _ := impl.BitsToBytes(list)
		got, code := impl.BytesToBits(bytes)
		expectList(t, "BytesToBits of BitsToBytes", got, code, list, impl.ErrNone)
	}
}

// Promise 1, texts: every short bit list, and long ones, are recovered from texts that are all different.
func TestBitListsAreReadFromTheirTexts(t *testing.T) {
	lists := append(shortBitLists(9), mixed(1000, 2, 7), mixed(impl.MaxBits-1, 2, 8), mixed(impl.MaxBits, 2, 9), repeated(0, impl.MaxBits))
	texts := map[string]bool{}
	for _, list := range lists {
		text := impl.BitsText(list)
		got, ok := impl.ReadBits(text)
		if !ok || !slices.Equal(got, list) || texts[text] {
			t.Errorf("%s: text %.40q, read as %s, %v", shortened(list), text, shortened(got), ok)
		}
		texts[text] = true
	}
}

// Promise 1, the guarantee of the chapter: flipping the differing bits of two lists turns one into the other.
func TestFlippingTheDifferingBits(t *testing.T) {
	lists := append(shortBitLists(5), mixed(300, 2, 10), mixed(300, 2, 11), mixed(impl.MaxBits, 2, 12), mixed(impl.MaxBits, 2, 13), repeated(0, impl.MaxBits), repeated(1, impl.MaxBits))
	for _, a := range lists {
		for _, b := range lists {
			if len(a) != len(b) {
				continue
			}
			indices, code := impl.DifferingBits(a, b)
			if code != impl.ErrNone {
				t.Fatalf("DifferingBits %s %s: code %d", shortened(a), shortened(b), code)
			}
			got, code := impl.FlipBits(a, indices)
			expectList(t, "FlipBits of the differing bits of "+shortened(a), got, code, b, impl.ErrNone)
			got, code = impl.FlipBits(b, indices)
			expectList(t, "FlipBits of the differing bits of "+shortened(b), got, code, a, impl.ErrNone)
			again, code := impl.DifferingBits(a, got)
			expectList(t, "DifferingBits after FlipBits", again, code, nil, impl.ErrNone)
		}
	}
}

// memoryLists are arguments for which the functions succeed and fail in different ways.
func memoryLists() [][]int64 {
	return [][]int64{nil, {0}, {1, 0, 1}, repeated(1, 8), mixed(16, 2, 14), mixed(impl.MaxBits, 2, 15), {0, 2}, {3, -1}, repeated(0, impl.MaxBits+1)}
}

// call is a function of the chapter with its number arguments fixed; what returns no list returns it as one element.
type call struct {
	name string
	run  func(lists [][]int64) []int64
}

func first(list []int64, _ int64) []int64 { return list }

func truth(b bool) []int64 {
	if b {
		return []int64{1}
	}
	return []int64{0}
}

func callsWithOneList() []call {
	calls := []call{
		{"IsBits", func(l [][]int64) []int64 { return truth(impl.IsBits(l[0])) }},
		{"IsBytes", func(l [][]int64) []int64 { return truth(impl.IsBytes(l[0])) }},
		{"BytesToBits", func(l [][]int64) []int64 { return first(impl.BytesToBits(l[0])) }},
		{"BitsToBytes", func(l [][]int64) []int64 { return first(impl.BitsToBytes(l[0])) }},
		{"BitsText", func(l [][]int64) []int64 { return []int64{int64(len(impl.BitsText(l[0])))} }},
	}
	for _, width := range []int64{0, 1, 5, 40, 41} {
		calls = append(calls, call{fmt.Sprint("AppendNumber in width ", width), func(l [][]int64) []int64 {
			return first(impl.AppendNumber(l[0], 1<<width-1, width))
		}}, call{fmt.Sprint("NumberAt in width ", width), func(l [][]int64) []int64 {
			number, code := impl.NumberAt(l[0], 0, width)
			return []int64{number, code}
		}})
	}
	return calls
}

func TestBitsLeaveMemoryAlone(t *testing.T) {
	for _, c := range callsWithOneList() {
		for _, list := range memoryLists() {
			checkMemory(t, c.name+" "+shortened(list), c.run, list)
		}
	}
	flip := func(l [][]int64) []int64 { return first(impl.FlipBits(l[0], l[1])) }
	differ := func(l [][]int64) []int64 { return first(impl.DifferingBits(l[0], l[1])) }
	for _, a := range memoryLists() {
		for _, indices := range [][]int64{nil, {0}, {0, 2}, {1, 0}, {9}} {
			checkMemory(t, "FlipBits "+shortened(a)+shortened(indices), flip, a, indices)
		}
		for _, b := range append(memoryLists(), []int64{0, 1, 1}, mixed(16, 2, 16)) {
			checkMemory(t, "DifferingBits "+shortened(a)+shortened(b), differ, a, b)
		}
	}
}

// One list as both arguments is neither changed nor shared.
func TestBitsWithOneListTwice(t *testing.T) {
	same := []int64{0, 1}
	got, code := impl.FlipBits(same, same)
	expectList(t, "FlipBits of a list at itself", got, code, []int64{1, 0}, impl.ErrNone)
	expectList(t, "the list after FlipBits", same, 0, []int64{0, 1}, 0)
	fill(got, mark)
	expectList(t, "the list after its result was written to", same, 0, []int64{0, 1}, 0)
}

func TestReadBitsReturnsNewMemory(t *testing.T) {
	for _, text := range []string{"", "0", "0110", strings.Repeat("10", impl.MaxBits/2)} {
		one, _ := impl.ReadBits(text)
		two, _ := impl.ReadBits(text)
		fill(two[:cap(two)], mark)
		if !slices.Equal(one, bitsOfText(text)) {
			t.Errorf("ReadBits %.40q: two results share memory", text)
		}
	}
}
