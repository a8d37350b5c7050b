package tests

import (
	"fmt"
	"slices"
	"strconv"
	"testing"

	"loop.example/g00833/impl"
)

const (
	leastCrcWidth    = 3
	greatestCrcWidth = 24
)

// codesOfWidth returns valid codes of a width, the least and the greatest polynomial among them.
func codesOfWidth(width int64) []impl.Crc {
	polys := []int64{1, 3, 1<<width - 3, 1<<width - 1, 1<<(width-1) + 1, 1<<width/3 | 1}
	for _, poly := range mixed(4, 1<<width, uint64(width)) {
		polys = append(polys, poly|1)
	}
	var codes []impl.Crc
	for _, poly := range polys {
		codes = append(codes, impl.Crc{Width: width, Poly: poly})
	}
	return codes
}

// codes returns valid codes of all widths.
func codes() []impl.Crc {
	list := []impl.Crc{impl.StandardCrc()}
	for width := int64(leastCrcWidth); width <= greatestCrcWidth; width++ {
		list = append(list, codesOfWidth(width)...)
	}
	return list
}

// notCrcs returns codes that are not valid: a wrong width, or a wrong polynomial of a right width.
func notCrcs() []impl.Crc {
	var list []impl.Crc
	for _, width := range []int64{2, 25, 1, 0, -1, -3, -24, 32, 40, 62, 63, 64, 67, 1<<32 + 3, 1<<32 + 24, greatest, least, least + 3} {
		for _, poly := range []int64{1, 3, 0, -1, 6122955, 1<<25 - 1, greatest, least} {
			list = append(list, impl.Crc{Width: width, Poly: poly})
		}
	}
	for width := int64(leastCrcWidth); width <= greatestCrcWidth; width++ {
		for _, poly := range []int64{0, -1, 2, 4, 1<<width - 2, 1 << (width - 1), 1 << width, 1<<width + 1, 1<<width + 3, 1<<32 + 1, greatest, greatest - 1, least, least + 1, 1 - 1<<width} {
			list = append(list, impl.Crc{Width: width, Poly: poly})
		}
	}
	return list
}

// seedsOf returns seeds of a valid code, 0 and the greatest one among them.
func seedsOf(c impl.Crc) []int64 {
	limit := int64(1) << c.Width
	return append(mixed(2, limit, uint64(c.Poly)), 0, 1, limit/2, limit-1)
}

// notSeedsOf returns numbers that are no seeds of a valid code.
func notSeedsOf(c impl.Crc) []int64 {
	limit := int64(1) << c.Width
	return []int64{limit, limit + 1, 2*limit - 1, -1, -limit, 1 << 32, greatest, least}
}

// reference returns a check number by long division, without a register: the bits of the seed are added to the first bits of
// the list with Width zeros behind it, and what remains after the division by g is the check number.
func reference(c impl.Crc, seed int64, list []int64) int64 {
	divisor := bitsOfText("1" + textOfNumber(c.Poly, int(c.Width)))
	rest := joined(list, repeated(0, int(c.Width)))
	for i, bit := range bitsOfText(textOfNumber(seed, int(c.Width))) {
		rest[i] ^= bit
	}
	for i := range list {
		if rest[i] == 1 {
			for k, coefficient := range divisor {
				rest[i+k] ^= coefficient
			}
		}
	}
	return numberOfBits(rest[len(list):])
}

// numberOfBits returns the number that a bit list of at least one bit is in base two. It does not use the program.
func numberOfBits(bits []int64) int64 {
	text := make([]byte, len(bits))
	for i, bit := range bits {
		text[i] = '0' + byte(bit)
	}
	number, err := strconv.ParseInt(string(text), 2, 64)
	if err != nil {
		panic(err)
	}
	return number
}

// bitsOfBytes returns the bits of a byte list. It does not use the program.
func bitsOfBytes(bytes []int64) []int64 {
	var bits []int64
	for _, value := range bytes {
		bits = append(bits, bitsOfText(textOfNumber(value, 8))...)
	}
	return bits
}

// sealed returns a list with the reference's check number behind it.
func sealed(c impl.Crc, seed int64, list []int64) []int64 {
	return joined(list, bitsOfText(textOfNumber(reference(c, seed, list), int(c.Width))))
}

// bytesOfString returns the bytes of a text as a byte list.
func bytesOfString(text string) []int64 {
	var bytes []int64
	for i := range len(text) {
		bytes = append(bytes, int64(text[i]))
	}
	return bytes
}

func crcName(function string, c impl.Crc, seed int64, list []int64) string {
	return fmt.Sprintf("%s %d with the seed %d of %d elements %s", function, c, seed, len(list), shortened(list))
}

// crcBitLists returns bit lists of many lengths, around the multiples of eight and the widths.
func crcBitLists() [][]int64 {
	lists := [][]int64{nil, {}, {0}, {1}, {1, 0}, repeated(0, 40), repeated(1, 40), with(repeated(0, 60), 59, 1), with(repeated(0, 60), 0, 1)}
	for _, size := range []int{2, 3, 5, 7, 8, 9, 15, 16, 17, 23, 24, 25, 31, 32, 33, 64, 100, 257} {
		lists = append(lists, mixed(size, 2, uint64(size)))
	}
	return lists
}

// crcByteLists returns byte lists of many lengths.
func crcByteLists() [][]int64 {
	lists := [][]int64{nil, {}, {0}, {1}, {128}, {255}, {0, 0, 7}, {255, 255, 255, 255, 255}, {1, 2, 3, 4}}
	for _, size := range []int{2, 3, 4, 10, 33} {
		lists = append(lists, mixed(size, 256, uint64(size)+50))
	}
	return lists
}

func TestStandardCrc(t *testing.T) {
	got := impl.StandardCrc()
	if got != (impl.Crc{Width: 24, Poly: 6122955}) || got.Poly != 0x5D6DCB || !impl.IsCrc(got) {
		t.Errorf("StandardCrc: %d, valid: %v", got, impl.IsCrc(got))
	}
}

func TestIsCrc(t *testing.T) {
	for _, c := range codes() {
		if !impl.IsCrc(c) {
			t.Errorf("IsCrc(%d) is false", c)
		}
	}
	for _, c := range notCrcs() {
		if impl.IsCrc(c) {
			t.Errorf("IsCrc(%d) is true", c)
		}
	}
}

// All small pairs of a width and a polynomial are judged.
func TestIsCrcOfSmallNumbers(t *testing.T) {
	for width := int64(-2); width <= 10; width++ {
		for poly := int64(-20); poly <= 1100; poly++ {
			want := width >= 3 && poly >= 1 && poly < 1<<max(width, 0) && poly%2 == 1
			if got := impl.IsCrc(impl.Crc{Width: width, Poly: poly}); got != want {
				t.Errorf("IsCrc{%d, %d} is %v", width, poly, got)
			}
		}
	}
}

func TestCrcExamples(t *testing.T) {
	c := impl.Crc{Width: 3, Poly: 3}
	for _, x := range []struct {
		bits       string
		seed, want int64
	}{
		{"10", 0, 6},
		{"", 0, 0},
		{"", 5, 5},
		{"1", 0, 3},
		{"0", 0, 0},
		{"0", 4, 3},
		{"1", 4, 0},
		{"0", 2, 4},
		{"1", 3, 5},
	} {
		got, code := impl.CrcOfBits(c, x.seed, bitsOfText(x.bits))
		expectNumber(t, crcName("CrcOfBits", c, x.seed, bitsOfText(x.bits)), got, code, x.want, impl.ErrNone)
	}
}

// The check numbers of the digits 1 to 9 are known from the published lists of such codes, some of which add a constant to them.
func TestKnownCheckNumbers(t *testing.T) {
	digits := bytesOfString("123456789")
	for _, x := range []struct{ width, poly, seed, want int64 }{
		{3, 0x3, 0x0, 0x4 ^ 0x7},
		{4, 0x3, 0xF, 0xB ^ 0xF},
		{5, 0x09, 0x09, 0x00},
		{7, 0x09, 0x00, 0x75},
		{8, 0x07, 0x00, 0xF4},
		{8, 0x2F, 0xFF, 0xDF ^ 0xFF},
		{10, 0x233, 0x000, 0x199},
		{11, 0x385, 0x01A, 0x5A3},
		{12, 0x80F, 0x000, 0xF5B},
		{15, 0x4599, 0x0000, 0x059E},
		{16, 0x1021, 0x0000, 0x31C3},
		{16, 0x1021, 0xFFFF, 0x29B1},
		{17, 0x1685B, 0x00000, 0x04F03},
		{21, 0x102899, 0x000000, 0x0ED841},
		{24, 0x864CFB, 0xB704CE, 0x21CF02},
		{24, 0x5D6DCB, 0xFEDCBA, 0x7979BD},
		{24, 0x5D6DCB, 0xABCDEF, 0x1F23B8},
	} {
		c := impl.Crc{Width: x.width, Poly: x.poly}
		got, code := impl.CrcOfBytes(c, x.seed, digits)
		expectNumber(t, crcName("CrcOfBytes", c, x.seed, digits), got, code, x.want, impl.ErrNone)
		got, code = impl.CrcOfBits(c, x.seed, bitsOfBytes(digits))
		expectNumber(t, crcName("CrcOfBits", c, x.seed, bitsOfBytes(digits)), got, code, x.want, impl.ErrNone)
	}
}

// Every code of width 3 and some of width 4, every seed, every list of at most six bits.
func TestCrcOfBitsOfNarrowCodes(t *testing.T) {
	for _, c := range []impl.Crc{{Width: 3, Poly: 1}, {Width: 3, Poly: 3}, {Width: 3, Poly: 5}, {Width: 3, Poly: 7}, {Width: 4, Poly: 3}, {Width: 4, Poly: 9}, {Width: 4, Poly: 15}} {
		for seed := range int64(1) << c.Width {
			for _, list := range shortBitLists(6) {
				got, code := impl.CrcOfBits(c, seed, list)
				expectNumber(t, crcName("CrcOfBits", c, seed, list), got, code, reference(c, seed, list), impl.ErrNone)
			}
		}
	}
}

func TestCrcOfBits(t *testing.T) {
	for _, c := range codes() {
		for _, seed := range seedsOf(c) {
			for _, list := range crcBitLists() {
				got, code := impl.CrcOfBits(c, seed, list)
				expectNumber(t, crcName("CrcOfBits", c, seed, list), got, code, reference(c, seed, list), impl.ErrNone)
			}
		}
	}
}

func TestCrcOfBytes(t *testing.T) {
	for _, c := range codes() {
		for _, seed := range seedsOf(c) {
			for _, list := range crcByteLists() {
				got, code := impl.CrcOfBytes(c, seed, list)
				expectNumber(t, crcName("CrcOfBytes", c, seed, list), got, code, reference(c, seed, bitsOfBytes(list)), impl.ErrNone)
			}
		}
	}
}

// The longest bit lists and byte lists.
func TestCrcOfTheLongestLists(t *testing.T) {
	bits, bytes := mixed(impl.MaxBits, 2, 20), mixed(maxBytes, 256, 21)
	for _, c := range []impl.Crc{impl.StandardCrc(), {Width: 3, Poly: 1}, {Width: 3, Poly: 7}, {Width: 8, Poly: 7}, {Width: 24, Poly: 1}, {Width: 24, Poly: 1<<24 - 1}} {
		seed := int64(1)<<c.Width - 1
		for _, list := range [][]int64{bits, repeated(0, impl.MaxBits), repeated(1, impl.MaxBits)} {
			want := reference(c, seed, list)
			got, code := impl.CrcOfBits(c, seed, list)
			expectNumber(t, crcName("CrcOfBits", c, seed, list), got, code, want, impl.ErrNone)
			got, code = impl.SeedAfter(c, seed, list)
			expectNumber(t, crcName("SeedAfter", c, seed, list), got, code, want, impl.ErrNone)
			got, code = impl.SyndromeOf(c, list)
			expectNumber(t, crcName("SyndromeOf", c, 0, list), got, code, reference(c, 0, list), impl.ErrNone)
		}
		for _, list := range [][]int64{bytes, repeated(0, maxBytes), repeated(255, maxBytes)} {
			got, code := impl.CrcOfBytes(c, seed, list)
			expectNumber(t, crcName("CrcOfBytes", c, seed, list), got, code, reference(c, seed, bitsOfBytes(list)), impl.ErrNone)
		}
	}
}

func TestCrcTable(t *testing.T) {
	table, code := impl.CrcTable(impl.Crc{Width: 3, Poly: 3})
	if code != impl.ErrNone || len(table) != 256 {
		t.Fatalf("CrcTable: %s, code %d", shortened(table), code)
	}
	expectList(t, "the start of CrcTable {3 3}", table[:8], 0, []int64{0, 3, 6, 5, 7, 4, 1, 2}, 0)
	for _, c := range codes() {
		want := make([]int64, 256)
		for value := range want {
			want[value] = reference(c, 0, bitsOfBytes([]int64{int64(value)}))
		}
		got, code := impl.CrcTable(c)
		expectList(t, fmt.Sprint("CrcTable ", c), got, code, want, impl.ErrNone)
	}
	for _, c := range notCrcs() {
		got, code := impl.CrcTable(c)
		expectList(t, fmt.Sprint("CrcTable ", c), got, code, nil, impl.ErrInvalid)
	}
}

func TestSyndromeOf(t *testing.T) {
	for _, c := range codes() {
		for _, list := range crcBitLists() {
			got, code := impl.SyndromeOf(c, list)
			expectNumber(t, crcName("SyndromeOf", c, 0, list), got, code, reference(c, 0, list), impl.ErrNone)
		}
		// g divides itself, so the list of its coefficients has the syndrome 0.
		g := bitsOfText("1" + textOfNumber(c.Poly, int(c.Width)))
		got, code := impl.SyndromeOf(c, g)
		expectNumber(t, crcName("SyndromeOf", c, 0, g), got, code, 0, impl.ErrNone)
	}
}

func TestAppendCrc(t *testing.T) {
	three := impl.Crc{Width: 3, Poly: 3}
	got, code := impl.AppendCrc(three, 0, []int64{1, 0})
	expectList(t, "AppendCrc of 10", got, code, []int64{1, 0, 1, 1, 0}, impl.ErrNone)
	got, code = impl.AppendCrc(three, 1, nil)
	expectList(t, "AppendCrc of nil", got, code, []int64{0, 0, 1}, impl.ErrNone)
	for _, c := range codes() {
		for _, seed := range seedsOf(c) {
			for _, list := range crcBitLists() {
				got, code := impl.AppendCrc(c, seed, list)
				expectList(t, crcName("AppendCrc", c, seed, list), got, code, sealed(c, seed, list), impl.ErrNone)
			}
		}
	}
}

// The check number just fits, or just does not.
func TestAppendCrcAtTheLimit(t *testing.T) {
	full := mixed(impl.MaxBits, 2, 22)
	for _, c := range []impl.Crc{{Width: 3, Poly: 3}, {Width: 8, Poly: 7}, {Width: 23, Poly: 1}, impl.StandardCrc()} {
		for _, seed := range []int64{0, 5, 1<<c.Width - 1} {
			fitting := full[:impl.MaxBits-c.Width]
			got, code := impl.AppendCrc(c, seed, fitting)
			expectList(t, crcName("AppendCrc", c, seed, fitting), got, code, sealed(c, seed, fitting), impl.ErrNone)
			if !impl.HasCrc(c, seed, got) {
				t.Error(crcName("HasCrc", c, seed, got), "is false")
			}
			for _, size := range []int64{impl.MaxBits - c.Width + 1, impl.MaxBits - 1, impl.MaxBits} {
				got, code = impl.AppendCrc(c, seed, full[:size])
				expectList(t, crcName("AppendCrc", c, seed, full[:size]), got, code, nil, impl.ErrLimit)
			}
			// One bit more than a bit list, but with its right check number.
			if long := sealed(c, seed, full[:impl.MaxBits-c.Width+1]); impl.HasCrc(c, seed, long) {
				t.Error(crcName("HasCrc", c, seed, long), "is true")
			}
		}
	}
}

// Every list of at most eight bits is judged for every seed of two narrow codes.
func TestHasCrcOfNarrowCodes(t *testing.T) {
	for _, c := range []impl.Crc{{Width: 3, Poly: 3}, {Width: 4, Poly: 15}} {
		for seed := range int64(1) << c.Width {
			for _, list := range shortBitLists(8) {
				start := len(list) - int(c.Width)
				want := start >= 0 && slices.Equal(sealed(c, seed, list[:max(start, 0)]), list)
				if got := impl.HasCrc(c, seed, list); got != want {
					t.Error(crcName("HasCrc", c, seed, list), "is", got)
				}
			}
		}
	}
}

// A list that is shorter than Width has no check number, not even the bits of the register 0.
func TestHasCrcOfShortLists(t *testing.T) {
	for _, c := range codes() {
		for size := range int(c.Width) {
			for _, list := range [][]int64{repeated(0, size), repeated(1, size), mixed(size, 2, 23)} {
				if impl.HasCrc(c, 0, list) || impl.HasCrc(c, 1<<c.Width-1, list) {
					t.Error(crcName("HasCrc", c, 0, list), "or with the greatest seed is true")
				}
			}
		}
		for _, seed := range seedsOf(c) {
			bits := bitsOfText(textOfNumber(seed, int(c.Width)))
			if !impl.HasCrc(c, seed, bits) || impl.HasCrc(c, seed^1, bits) {
				t.Error(crcName("HasCrc", c, seed, bits), "is false, or true for another seed")
			}
		}
		if impl.HasCrc(c, 0, nil) {
			t.Error(crcName("HasCrc", c, 0, nil), "is true")
		}
	}
}

// A wrong bit or another seed is always seen, because g has the coefficient 1 at x^0.
func TestHasCrcAfterOneWrongBit(t *testing.T) {
	for _, c := range codes() {
		for _, seed := range seedsOf(c) {
			list := sealed(c, seed, mixed(20, 2, uint64(seed)))
			for i, bit := range list {
				if impl.HasCrc(c, seed, with(list, i, 1-bit)) {
					t.Error(crcName("HasCrc", c, seed, list), "is true with the wrong bit", i)
				}
			}
			for _, other := range seedsOf(c) {
				if got := impl.HasCrc(c, other, list); got != (other == seed) {
					t.Error(crcName("HasCrc", c, other, list), "is", got, "for the seed of", seed)
				}
			}
		}
	}
}

func TestHasCrcOfInvalidArguments(t *testing.T) {
	zeros := repeated(0, 30)
	for _, c := range notCrcs() {
		for _, list := range [][]int64{nil, {0}, {0, 0, 0}, zeros, repeated(0, 100)} {
			if impl.HasCrc(c, 0, list) {
				t.Error(crcName("HasCrc", c, 0, list), "is true")
			}
		}
	}
	for _, c := range codes() {
		for _, seed := range notSeedsOf(c) {
			inner := seed & (1<<c.Width - 1)
			for _, list := range [][]int64{zeros, sealed(c, inner, nil), sealed(c, inner, mixed(9, 2, 24)), nil} {
				if impl.HasCrc(c, seed, list) {
					t.Error(crcName("HasCrc", c, seed, list), "is true")
				}
			}
		}
	}
	for _, list := range notBits() {
		for _, c := range []impl.Crc{impl.StandardCrc(), {Width: 3, Poly: 1}, {Width: 3, Poly: 3}} {
			if impl.HasCrc(c, 0, list) || impl.HasCrc(c, 1, list) {
				t.Error(crcName("HasCrc", c, 0, list), "or with the seed 1 is true")
			}
		}
	}
	// The numbers of the last elements add up to the check number, but they are not bits.
	if c := (impl.Crc{Width: 3, Poly: 3}); impl.HasCrc(c, 4, []int64{0, 2, 0}) || impl.HasCrc(c, 6, []int64{1, 0, 2}) {
		t.Error("HasCrc of elements that are no bits is true")
	}
}

// crcCall is a function of the chapter that takes a code, a seed and a list; it returns a number as a list of one element,
// and nothing for the zero value.
type crcCall struct {
	name    string
	hasSeed bool
	bytes   bool
	run     func(c impl.Crc, seed int64, list []int64) ([]int64, int64)
}

func numberAsList(number int64, code int64) ([]int64, int64) {
	if number == 0 {
		return nil, code
	}
	return []int64{number}, code
}

func crcCalls() []crcCall {
	return []crcCall{
		{"CrcOfBits", true, false, func(c impl.Crc, seed int64, list []int64) ([]int64, int64) {
			return numberAsList(impl.CrcOfBits(c, seed, list))
		}},
		{"CrcOfBytes", true, true, func(c impl.Crc, seed int64, list []int64) ([]int64, int64) {
			return numberAsList(impl.CrcOfBytes(c, seed, list))
		}},
		{"SyndromeOf", false, false, func(c impl.Crc, _ int64, list []int64) ([]int64, int64) {
			return numberAsList(impl.SyndromeOf(c, list))
		}},
		{"AppendCrc", true, false, impl.AppendCrc},
		{"SeedAfter", true, false, func(c impl.Crc, seed int64, list []int64) ([]int64, int64) {
			return numberAsList(impl.SeedAfter(c, seed, list))
		}},
	}
}

// wrongLists returns lists that the function does not take, and listsFor some that it does.
func (f crcCall) wrongLists() [][]int64 {
	if f.bytes {
		return notBytes()
	}
	return notBits()
}

func (f crcCall) listsFor() [][]int64 {
	if f.bytes {
		return [][]int64{nil, {}, {255, 0, 3}, repeated(255, maxBytes)}
	}
	return [][]int64{nil, {}, {1, 0, 1}, repeated(1, impl.MaxBits)}
}

func TestCrcErrInvalid(t *testing.T) {
	for _, f := range crcCalls() {
		for _, c := range notCrcs() {
			for _, seed := range []int64{0, 1, -1, 1 << 24, greatest, least} {
				for _, list := range append(f.listsFor(), []int64{-1}, []int64{256}, repeated(0, impl.MaxBits+1)) {
					got, code := f.run(c, seed, list)
					expectList(t, crcName(f.name, c, seed, list), got, code, nil, impl.ErrInvalid)
				}
			}
		}
	}
}

func TestCrcErrRange(t *testing.T) {
	for _, f := range crcCalls() {
		if !f.hasSeed {
			continue
		}
		for _, c := range codes() {
			for _, seed := range notSeedsOf(c) {
				for _, list := range append(f.listsFor(), []int64{-1}, []int64{256}, repeated(0, impl.MaxBits+1)) {
					got, code := f.run(c, seed, list)
					expectList(t, crcName(f.name, c, seed, list), got, code, nil, impl.ErrRange)
				}
			}
		}
	}
}

func TestCrcErrLimit(t *testing.T) {
	for _, f := range crcCalls() {
		for _, c := range []impl.Crc{impl.StandardCrc(), {Width: 3, Poly: 1}, {Width: 24, Poly: 1}, {Width: 8, Poly: 255}} {
			for _, seed := range seedsOf(c) {
				for _, list := range f.wrongLists() {
					got, code := f.run(c, seed, list)
					expectList(t, crcName(f.name, c, seed, list), got, code, nil, impl.ErrLimit)
				}
			}
		}
	}
}

// A list of bytes is no bit list, and a bit list of more than MaxBits / 8 elements is no byte list.
func TestCrcTakesTheRightKindOfList(t *testing.T) {
	c := impl.StandardCrc()
	for _, f := range crcCalls() {
		_, code := f.run(c, 0, []int64{2})
		_, long := f.run(c, 0, repeated(1, maxBytes+1))
		want, wantLong := int64(impl.ErrLimit), int64(impl.ErrNone)
		if f.bytes {
			want, wantLong = wantLong, want
		}
		if code != want || long != wantLong {
			t.Errorf("%s: codes %d and %d, want %d and %d", f.name, code, long, want, wantLong)
		}
	}
}

// Promise 2: the check number of a prefix followed by a list is that of the list for the seed after the prefix.
func TestPrefixesAreFedFirst(t *testing.T) {
	whole := mixed(70, 2, 25)
	for _, c := range codes() {
		for _, seed := range seedsOf(c) {
			want, code := impl.CrcOfBits(c, seed, whole)
			expectNumber(t, crcName("CrcOfBits", c, seed, whole), want, code, reference(c, seed, whole), impl.ErrNone)
			for cut := range len(whole) + 1 {
				after, code := impl.SeedAfter(c, seed, whole[:cut])
				expectNumber(t, crcName("SeedAfter", c, seed, whole[:cut]), after, code, reference(c, seed, whole[:cut]), impl.ErrNone)
				got, code := impl.CrcOfBits(c, after, whole[cut:])
				expectNumber(t, fmt.Sprint(crcName("CrcOfBits", c, seed, whole), " cut at ", cut), got, code, want, impl.ErrNone)
			}
		}
	}
}

// Promise 2, for prefixes in several parts, parts of the longest list, and bytes after bits that are no whole bytes.
func TestPrefixesInParts(t *testing.T) {
	bytes := mixed(12, 256, 26)
	long := mixed(impl.MaxBits, 2, 27)
	for _, c := range codes() {
		for _, seed := range seedsOf(c) {
			register := seed
			for _, size := range []int{0, 1, 8, 13, 24, 40} {
				register, _ = impl.SeedAfter(c, register, long[:size])
			}
			parts := joined(long[:1], long[:8], long[:13], long[:24], long[:40])
			if want, code := impl.SeedAfter(c, seed, parts); register != want || code != impl.ErrNone {
				t.Errorf("SeedAfter %d in parts: %d, want %d, code %d", c, register, want, code)
			}
			after, _ := impl.SeedAfter(c, seed, long[:5])
			got, code := impl.CrcOfBytes(c, after, bytes)
			want, _ := impl.CrcOfBits(c, seed, joined(long[:5], bitsOfBytes(bytes)))
			expectNumber(t, crcName("CrcOfBytes after five bits", c, seed, bytes), got, code, want, impl.ErrNone)
		}
		after, _ := impl.SeedAfter(c, 1, long[:3001])
		got, code := impl.CrcOfBits(c, after, long[3001:])
		want, _ := impl.CrcOfBits(c, 1, long)
		expectNumber(t, crcName("CrcOfBits in two parts", c, 1, long), got, code, want, impl.ErrNone)
	}
}

// Promise 2: the exclusive or of two check numbers is the syndrome of the differences.
func TestCheckNumbersDifferByTheSyndrome(t *testing.T) {
	for _, c := range codes() {
		for _, size := range []int{0, 1, 2, 7, 8, 24, 25, 90} {
			a := mixed(size, 2, uint64(c.Poly)+28)
			for _, b := range [][]int64{mixed(size, 2, uint64(c.Poly)+29), repeated(0, size), repeated(1, size), a} {
				differences := make([]int64, size)
				for i := range differences {
					differences[i] = a[i] ^ b[i]
				}
				syndrome, code := impl.SyndromeOf(c, differences)
				for _, seed := range seedsOf(c) {
					one, _ := impl.CrcOfBits(c, seed, a)
					two, _ := impl.CrcOfBits(c, seed, b)
					expectNumber(t, crcName("SyndromeOf", c, seed, differences), syndrome, code, one^two, impl.ErrNone)
				}
			}
		}
	}
}

// Promise 2, all pairs of lists of five bits for one seed and two narrow codes.
func TestAllShortListsDifferByTheSyndrome(t *testing.T) {
	for _, c := range []impl.Crc{{Width: 3, Poly: 3}, {Width: 4, Poly: 5}} {
		for a := range int64(32) {
			for b := range int64(32) {
				one, _ := impl.CrcOfBits(c, 3, bitsOfText(textOfNumber(a, 5)))
				two, _ := impl.CrcOfBits(c, 3, bitsOfText(textOfNumber(b, 5)))
				got, code := impl.SyndromeOf(c, bitsOfText(textOfNumber(a^b, 5)))
				expectNumber(t, fmt.Sprint("SyndromeOf ", c, " for ", a, " and ", b), got, code, one^two, impl.ErrNone)
			}
		}
	}
}

// Promise 2, the guarantee of the chapter: the register is 0 after a list with its check number, and HasCrc reports it.
func TestRegisterIsZeroAfterTheCheckNumber(t *testing.T) {
	lists := append(crcBitLists(), mixed(impl.MaxBits-greatestCrcWidth, 2, 30))
	for _, c := range codes() {
		seed := seedsOf(c)[0]
		for i, list := range lists {
			if i%2 == 1 {
				seed = 1<<c.Width - 1 - seed
			}
			longer, code := impl.AppendCrc(c, seed, list)
			if code != impl.ErrNone || len(longer) != len(list)+int(c.Width) || !slices.Equal(longer[:len(list)], list) {
				t.Fatalf("%s: %s, code %d", crcName("AppendCrc", c, seed, list), shortened(longer), code)
			}
			got, code := impl.CrcOfBits(c, seed, longer)
			expectNumber(t, crcName("CrcOfBits", c, seed, longer), got, code, 0, impl.ErrNone)
			if !impl.HasCrc(c, seed, longer) {
				t.Error(crcName("HasCrc", c, seed, longer), "is false")
			}
		}
	}
}

func TestCrcLeavesMemoryAlone(t *testing.T) {
	for _, c := range []impl.Crc{{Width: 3, Poly: 3}, {Width: 24, Poly: 1}, impl.StandardCrc(), {Width: 3, Poly: 2}} {
		for _, f := range crcCalls() {
			run := func(l [][]int64) []int64 { return first(f.run(c, 1, l[0])) }
			for _, list := range append(memoryLists(), sealed(impl.StandardCrc(), 1, []int64{1, 0, 1})) {
				checkMemory(t, fmt.Sprint(f.name, " ", c, shortened(list)), run, list)
			}
		}
		has := func(l [][]int64) []int64 { return truth(impl.HasCrc(c, 1, l[0])) }
		for _, list := range append(memoryLists(), sealed(impl.StandardCrc(), 1, []int64{1, 0, 1}), []int64{0, 0, 1}) {
			checkMemory(t, fmt.Sprint("HasCrc ", c, shortened(list)), has, list)
		}
		checkMemory(t, fmt.Sprint("CrcTable ", c), func([][]int64) []int64 { return first(impl.CrcTable(c)) })
	}
}

// What is written into a table changes no later result, neither of that code nor of another one.
func TestCrcKeepsNoTable(t *testing.T) {
	list := mixed(30, 256, 31)
	for _, c := range codes() {
		table, _ := impl.CrcTable(c)
		fill(table, mark)
		got, code := impl.CrcOfBytes(c, 1, list)
		expectNumber(t, crcName("CrcOfBytes", c, 1, list), got, code, reference(c, 1, bitsOfBytes(list)), impl.ErrNone)
	}
}
