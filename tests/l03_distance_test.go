package tests

import (
	"fmt"
	"slices"
	"testing"

	"loop.example/g00833/impl"
)

// three is the code of the document's examples.
var three = impl.Crc{Width: 3, Poly: 3}

// No code has an order in 4992..5004, so these two stand on either side of MaxOrder as near as codes can.
var (
	orderBelow = impl.Crc{Width: 19, Poly: 28521} // of the order 4991
	orderAbove = impl.Crc{Width: 22, Poly: 36847} // of the order 5005
)

// orderLongest is a code of the order 8191: in a list of MaxBits bits two errors can stand just so far apart.
var orderLongest = impl.Crc{Width: 13, Poly: 27}

// narrowCodes returns all valid codes of at most a width.
func narrowCodes(width int64) []impl.Crc {
	var list []impl.Crc
	for w := int64(leastCrcWidth); w <= width; w++ {
		for poly := int64(1); poly < 1<<w; poly += 2 {
			list = append(list, impl.Crc{Width: w, Poly: poly})
		}
	}
	return list
}

// distanceCodes returns valid codes of all widths, all those of small ones, and those with orders about MaxOrder.
func distanceCodes() []impl.Crc {
	return append(append(narrowCodes(7), codes()...), orderBelow, orderAbove, orderLongest, impl.Crc{Width: 16, Poly: 0x1021})
}

// coefficients returns the coefficients of g, that of x^Width first: as an error list they are missed.
func coefficients(c impl.Crc) []int64 { return bitsOfText("1" + textOfNumber(c.Poly, int(c.Width))) }

// onesAt returns a list of zeros with ones at some indices.
func onesAt(size int, indices ...int) []int64 {
	list := repeated(0, size)
	for _, index := range indices {
		list[index] = 1
	}
	return list
}

// weightOf returns the number of ones.
func weightOf(list []int64) int {
	weight := 0
	for _, bit := range list {
		if bit == 1 {
			weight++
		}
	}
	return weight
}

// orderByPowers returns the least n for which g divides x^n + 1, or 0 if it is greater than a limit. It does not use the program.
func orderByPowers(c impl.Crc, limit int64) int64 {
	power := int64(1)
	for n := int64(1); n <= limit; n++ {
		power *= 2
		if power >= 1<<c.Width {
			power ^= 1<<c.Width | c.Poly
		}
		if power == 1 {
			return n
		}
	}
	return 0
}

// missedByReference reports whether a list is missed, by long division.
func missedByReference(c impl.Crc, list []int64) bool {
	return weightOf(list) > 0 && reference(c, 0, list) == 0
}

// searchMissed returns the lexicographically smallest indices, from a start on, of weight remainders whose exclusive or is sum, or nil.
func searchMissed(remainders []int64, start int, weight int, sum int64) []int64 {
	if weight == 0 {
		if sum == 0 {
			return []int64{}
		}
		return nil
	}
	for i := start; i < len(remainders); i++ {
		if rest := searchMissed(remainders, i+1, weight-1, sum^remainders[i]); rest != nil {
			return append([]int64{int64(i)}, rest...)
		}
	}
	return nil
}

// firstBySearch returns the indices of the ones of the first missed list of the least weight, or nil if it is greater than 3.
func firstBySearch(c impl.Crc, span int) []int64 {
	remainders := make([]int64, span)
	for i := range remainders {
		remainders[i] = reference(c, 0, onesAt(span, i))
	}
	for weight := 1; weight <= 3; weight++ {
		if indices := searchMissed(remainders, 0, weight, 0); indices != nil {
			return indices
		}
	}
	return nil
}

func listName(function string, c impl.Crc, list []int64) string {
	return fmt.Sprintf("%s %d of %d bits %s", function, c, len(list), shortened(list))
}

// expectBool fails the test if a call did not return this truth value and this code.
func expectBool(t *testing.T, call string, got bool, code int64, want bool, wantCode int64) {
	t.Helper()
	if got != want || code != wantCode {
		t.Errorf("%s: %v, code %d, want %v, code %d", call, got, code, want, wantCode)
	}
}

func TestConstantsOfDistance(t *testing.T) {
	expectList(t, "the constants", []int64{impl.MaxOrder, impl.MaxSpan}, 0, []int64{5000, 64}, 0)
}

func TestIsMissed(t *testing.T) {
	for _, x := range []struct {
		bits string
		want bool
	}{
		{"1011", true}, {"01011", true}, {"10110", true}, {"10000001", true}, {"11101", true},
		{"1101", false}, {"", false}, {"0", false}, {"00", false}, {"1", false}, {"01", false}, {"10", false}, {"111", false}, {"1000001", false}, {"100000001", false},
	} {
		if got := impl.IsMissed(three, bitsOfText(x.bits)); got != x.want {
			t.Errorf("IsMissed %d of %q is %v", three, x.bits, got)
		}
	}
}

func TestIsMissedOfAllShortLists(t *testing.T) {
	for _, c := range narrowCodes(6) {
		for _, list := range shortBitLists(9) {
			if got := impl.IsMissed(c, list); got != missedByReference(c, list) {
				t.Error(listName("IsMissed", c, list), "is", got)
			}
		}
	}
}

// The coefficients of g are missed wherever they stand; with one bit flipped they are not, nor is a single one.
func TestIsMissedOfMultiples(t *testing.T) {
	for _, c := range distanceCodes() {
		for _, zeros := range []int{0, 1, 9} {
			list := joined(repeated(0, zeros), coefficients(c), repeated(0, 10-zeros))
			if !impl.IsMissed(c, list) {
				t.Error(listName("IsMissed", c, list), "is false")
			}
			for i, bit := range list {
				if other := with(list, i, 1-bit); impl.IsMissed(c, other) {
					t.Error(listName("IsMissed", c, other), "is true")
				}
				if one := onesAt(len(list), i); impl.IsMissed(c, one) {
					t.Error(listName("IsMissed", c, one), "is true")
				}
			}
		}
	}
}

// A list of MaxBits bits is judged, one of a bit more is not; lists that are all 0 are no errors.
func TestIsMissedOfLongLists(t *testing.T) {
	for _, c := range []impl.Crc{three, impl.StandardCrc(), orderBelow, orderLongest, {Width: 24, Poly: 1}} {
		list := sealed(c, 0, mixed(impl.MaxBits-int(c.Width), 2, 32))
		late := joined(repeated(0, impl.MaxBits-int(c.Width)-1), coefficients(c))
		for _, full := range [][]int64{list, late} {
			if !impl.IsMissed(c, full) {
				t.Error(listName("IsMissed", c, full), "is false")
			}
			for _, index := range []int{0, 4000, impl.MaxBits - 1} {
				if other := with(full, index, 1-full[index]); impl.IsMissed(c, other) {
					t.Error(listName("IsMissed", c, other), "is true")
				}
			}
		}
		for _, wrong := range [][]int64{joined([]int64{0}, list), joined(late, []int64{0}), nil, {}, {0}, repeated(0, int(c.Width)), repeated(0, impl.MaxBits)} {
			if impl.IsMissed(c, wrong) {
				t.Error(listName("IsMissed", c, wrong), "is true")
			}
		}
	}
}

func TestIsMissedOfInvalidArguments(t *testing.T) {
	// With 1 in place of the first element, the last two lists would be missed.
	for _, list := range append(notBits(), []int64{3, 0, 1, 1}, []int64{-1, 0, 1, 1}) {
		for _, c := range []impl.Crc{three, impl.StandardCrc(), {Width: 3, Poly: 1}} {
			if impl.IsMissed(c, list) {
				t.Error(listName("IsMissed", c, list), "is true")
			}
		}
	}
	for _, c := range notCrcs() {
		for _, list := range [][]int64{nil, {0}, {1}, {1, 0, 0, 0}, repeated(0, 30), joined([]int64{1}, repeated(0, 40)), {2}} {
			if impl.IsMissed(c, list) {
				t.Error(listName("IsMissed", c, list), "is true")
			}
		}
	}
	// These lists are the coefficients of what g would be.
	for _, x := range []struct {
		c    impl.Crc
		bits string
	}{{impl.Crc{Width: 2, Poly: 3}, "111"}, {impl.Crc{Width: 1, Poly: 1}, "11"}, {impl.Crc{Width: 3, Poly: 2}, "1010"}, {impl.Crc{Width: 3, Poly: 0}, "1000"}, {impl.Crc{Width: 25, Poly: 1}, "10000000000000000000000001"}} {
		if impl.IsMissed(x.c, bitsOfText(x.bits)) {
			t.Errorf("IsMissed %d of %s is true", x.c, x.bits)
		}
	}
}

func TestOrderOf(t *testing.T) {
	for _, x := range []struct{ width, poly, want int64 }{
		{3, 3, 7}, {3, 1, 3}, {3, 5, 7}, {3, 7, 4}, {4, 3, 15}, {4, 15, 5}, {4, 5, 6}, {5, 5, 31}, {5, 19, 8}, {6, 9, 9}, {8, 0x1D, 255}, {12, 0x53, 4095},
		{24, 1, 24}, {24, 1<<24 - 1, 25}, {23, 1<<23 - 1, 24}, {orderBelow.Width, orderBelow.Poly, 4991},
	} {
		c := impl.Crc{Width: x.width, Poly: x.poly}
		got, code := impl.OrderOf(c)
		expectNumber(t, fmt.Sprint("OrderOf ", c), got, code, x.want, impl.ErrNone)
	}
	for _, c := range []impl.Crc{orderAbove, orderLongest, {Width: 16, Poly: 1951}, {Width: 16, Poly: 0x1021}, {Width: 24, Poly: 27}} {
		got, code := impl.OrderOf(c)
		expectNumber(t, fmt.Sprint("OrderOf ", c), got, code, 0, impl.ErrLimit)
	}
	for _, c := range notCrcs() {
		got, code := impl.OrderOf(c)
		expectNumber(t, fmt.Sprint("OrderOf ", c), got, code, 0, impl.ErrInvalid)
	}
}

func TestOrderOfManyCodes(t *testing.T) {
	if a, b := orderByPowers(orderBelow, 9000), orderByPowers(orderAbove, 9000); a != 4991 || b != 5005 {
		t.Fatalf("the orders %d and %d", a, b)
	}
	limits := 0
	for _, c := range append(distanceCodes(), narrowCodes(10)...) {
		want, wantCode := orderByPowers(c, impl.MaxOrder), int64(impl.ErrNone)
		if want == 0 {
			wantCode = impl.ErrLimit
			limits++
		}
		got, code := impl.OrderOf(c)
		expectNumber(t, fmt.Sprint("OrderOf ", c), got, code, want, wantCode)
	}
	if limits < 20 {
		t.Errorf("only %d codes have an order that is greater than MaxOrder", limits)
	}
}

// distancesUpTo returns the distances to be tried for an order: all of them if it is small, else those near its ends.
func distancesUpTo(order int) []int {
	var distances []int
	for d := 1; d <= order; d++ {
		if d <= 40 || d > order-8 || order <= 300 || d%331 == 0 {
			distances = append(distances, d)
		}
	}
	return distances
}

// Promise 3: two errors are missed at the distance of the order, and at no smaller one, wherever they stand.
func TestTwoErrorsAtTheOrder(t *testing.T) {
	for _, c := range distanceCodes() {
		order, code := impl.OrderOf(c)
		last := order
		if code == impl.ErrLimit {
			last = impl.MaxOrder
		}
		for _, d := range distancesUpTo(int(last)) {
			want := int64(d) == order
			for _, list := range [][]int64{onesAt(d+1, 0, d), onesAt(d+9, 3, d+3)} {
				if got := impl.IsMissed(c, list); got != want {
					t.Errorf("IsMissed %d at the distance %d with the order %d is %v", c, d, order, got)
				}
			}
		}
		twice := int(2 * order)
		if code == impl.ErrNone && twice+2 <= impl.MaxBits && !impl.IsMissed(c, onesAt(twice+2, 1, twice+1)) {
			t.Errorf("IsMissed %d at twice the order %d is false", c, order)
		}
	}
}

// searchedSpans returns the spans that are searched: the small ones, and those about powers of two.
func searchedSpans() []int {
	list := []int{31, 32, 33, 63, impl.MaxSpan}
	for span := 1; span <= 24; span++ {
		list = append(list, span)
	}
	return list
}

// checkSpan holds LeastWeight and FirstMissed against the search, and returns the least weight.
func checkSpan(t *testing.T, c impl.Crc, span int) int64 {
	t.Helper()
	want := firstBySearch(c, span)
	weight, wantCode := int64(len(want)), int64(impl.ErrNone)
	if want == nil {
		weight, wantCode = 4, impl.ErrNotFound
	}
	least, code := impl.LeastWeight(c, int64(span))
	expectNumber(t, fmt.Sprint("LeastWeight ", c, span), least, code, weight, impl.ErrNone)
	got, code := impl.FirstMissed(c, int64(span))
	expectList(t, fmt.Sprint("FirstMissed ", c, span), got, code, want, wantCode)
	return weight
}

// Promise 3: FirstMissed is the first missed list of the LeastWeight, and no list of a smaller weight is missed.
func TestLeastWeightsAgainstTheSearch(t *testing.T) {
	counts := map[int64]int{}
	for _, c := range append(distanceCodes(), impl.Crc{Width: 8, Poly: 7}, impl.Crc{Width: 8, Poly: 0x2F}, impl.Crc{Width: 10, Poly: 27}) {
		for _, span := range searchedSpans() {
			counts[checkSpan(t, c, span)]++
		}
	}
	if counts[1] != 0 || counts[2] < 100 || counts[3] < 100 || counts[4] < 100 {
		t.Errorf("the least weights are %v times 1 to 4", counts)
	}
}

// Promise 3, by IsMissed alone, over all lists of small spans in the order of their weights and indices.
func TestFirstMissedAgainstAllLists(t *testing.T) {
	for _, c := range narrowCodes(6) {
		for span := 1; span <= 9; span++ {
			var best []int64
			for value := int64(1); value < 1<<span; value++ {
				list := bitsOfText(textOfNumber(value, span))
				indices := indicesOfOnes(list)
				if len(indices) <= 3 && impl.IsMissed(c, list) && (best == nil || isBefore(indices, best)) {
					best = indices
				}
			}
			wantCode := int64(impl.ErrNone)
			if best == nil {
				wantCode = impl.ErrNotFound
			}
			got, code := impl.FirstMissed(c, int64(span))
			expectList(t, fmt.Sprint("FirstMissed ", c, span), got, code, best, wantCode)
		}
	}
}

func indicesOfOnes(list []int64) []int64 {
	var indices []int64
	for i, bit := range list {
		if bit == 1 {
			indices = append(indices, int64(i))
		}
	}
	return indices
}

// isBefore reports whether indices are fewer than others, or as many and lexicographically smaller.
func isBefore(indices []int64, others []int64) bool {
	if len(indices) != len(others) {
		return len(indices) < len(others)
	}
	return slices.Compare(indices, others) < 0
}

func TestLeastWeightExamples(t *testing.T) {
	for _, x := range []struct {
		c          impl.Crc
		span, want int64
		indices    []int64
	}{
		{three, 1, 4, nil},
		{three, 3, 4, nil},
		{three, 4, 3, []int64{0, 2, 3}},
		{three, 7, 3, []int64{0, 1, 5}},
		{three, 8, 2, []int64{0, 7}},
		{three, 64, 2, []int64{0, 7}},
		{impl.Crc{Width: 3, Poly: 1}, 3, 4, nil},
		{impl.Crc{Width: 3, Poly: 1}, 4, 2, []int64{0, 3}},
		{impl.Crc{Width: 3, Poly: 7}, 4, 4, nil},
		{impl.Crc{Width: 3, Poly: 7}, 5, 2, []int64{0, 4}},
		{impl.Crc{Width: 24, Poly: 1}, 24, 4, nil},
		{impl.Crc{Width: 24, Poly: 1}, 25, 2, []int64{0, 24}},
		{impl.Crc{Width: 24, Poly: 3}, 24, 4, nil},
		{impl.Crc{Width: 24, Poly: 3}, 25, 3, []int64{0, 23, 24}},
		{impl.Crc{Width: 24, Poly: 1<<23 + 1}, 64, 3, []int64{0, 1, 24}},
		{impl.StandardCrc(), 64, 4, nil},
		{impl.Crc{Width: 4, Poly: 3}, 15, 3, []int64{0, 1, 12}},
		{impl.Crc{Width: 4, Poly: 3}, 16, 2, []int64{0, 15}},
		{impl.Crc{Width: 6, Poly: 3}, 63, 3, []int64{0, 1, 58}},
		{impl.Crc{Width: 6, Poly: 3}, 64, 2, []int64{0, 63}},
	} {
		weight, code := impl.LeastWeight(x.c, x.span)
		expectNumber(t, fmt.Sprint("LeastWeight ", x.c, x.span), weight, code, x.want, impl.ErrNone)
		wantCode := int64(impl.ErrNone)
		if x.indices == nil {
			wantCode = impl.ErrNotFound
		}
		indices, code := impl.FirstMissed(x.c, x.span)
		expectList(t, fmt.Sprint("FirstMissed ", x.c, x.span), indices, code, x.indices, wantCode)
	}
}

func TestSpanErrors(t *testing.T) {
	wrong := []int64{0, -1, impl.MaxSpan + 1, impl.MaxSpan + 2, -impl.MaxSpan, 1 << 32, 1<<32 + 5, greatest, least, least + 5}
	for _, c := range distanceCodes() {
		for _, span := range wrong {
			weight, code := impl.LeastWeight(c, span)
			expectNumber(t, fmt.Sprint("LeastWeight ", c, span), weight, code, 0, impl.ErrRange)
			indices, code := impl.FirstMissed(c, span)
			expectList(t, fmt.Sprint("FirstMissed ", c, span), indices, code, nil, impl.ErrRange)
		}
	}
	for _, c := range notCrcs() {
		for _, span := range append(wrong, 1, 4, 8, impl.MaxSpan) {
			weight, code := impl.LeastWeight(c, span)
			expectNumber(t, fmt.Sprint("LeastWeight ", c, span), weight, code, 0, impl.ErrInvalid)
			indices, code := impl.FirstMissed(c, span)
			expectList(t, fmt.Sprint("FirstMissed ", c, span), indices, code, nil, impl.ErrInvalid)
		}
	}
}

func expectBurst(t *testing.T, list []int64, want int64, wantSize int64, wantCode int64) {
	t.Helper()
	at, size, code := impl.BurstOf(list)
	if at != want || size != wantSize || code != wantCode {
		t.Errorf("BurstOf %s: %d, %d, code %d, want %d, %d, code %d", shortened(list), at, size, code, want, wantSize, wantCode)
	}
}

func TestBurstOf(t *testing.T) {
	expectBurst(t, []int64{0, 1, 0, 1, 0}, 1, 3, impl.ErrNone)
	expectBurst(t, []int64{1}, 0, 1, impl.ErrNone)
	expectBurst(t, []int64{1, 1, 1}, 0, 3, impl.ErrNone)
	expectBurst(t, []int64{0, 1, 1, 0, 1}, 1, 4, impl.ErrNone)
	for _, size := range []int{1, 2, 3, 8, 25, 64, impl.MaxBits} {
		expectBurst(t, onesAt(size, 0), 0, 1, impl.ErrNone)
		expectBurst(t, onesAt(size, size-1), int64(size-1), 1, impl.ErrNone)
		expectBurst(t, onesAt(size, 0, size-1), 0, int64(size), impl.ErrNone)
		expectBurst(t, onesAt(size, size/2), int64(size/2), 1, impl.ErrNone)
		expectBurst(t, repeated(1, size), 0, int64(size), impl.ErrNone)
		expectBurst(t, repeated(0, size), 0, 0, impl.ErrNotFound)
	}
	for first := range 12 {
		for last := first; last < 12; last++ {
			expectBurst(t, onesAt(12, first, last), int64(first), int64(last-first+1), impl.ErrNone)
			expectBurst(t, onesAt(12, first, (first+last)/2, last), int64(first), int64(last-first+1), impl.ErrNone)
		}
	}
}

func TestBurstOfErrors(t *testing.T) {
	expectBurst(t, nil, 0, 0, impl.ErrNotFound)
	expectBurst(t, []int64{}, 0, 0, impl.ErrNotFound)
	for _, list := range notBits() {
		expectBurst(t, list, 0, 0, impl.ErrInvalid)
	}
	expectBurst(t, []int64{0, 0, 2}, 0, 0, impl.ErrInvalid)
	expectBurst(t, []int64{1, 0, -1}, 0, 0, impl.ErrInvalid)
}

// reasons tells for which of the document's reasons an error is found. It does not use the program.
type reasons struct{ odd, burst, pair bool }

func (r reasons) any() bool { return r.odd || r.burst || r.pair }

// reasonsFor judges a list with at least one one.
func reasonsFor(c impl.Crc, list []int64) reasons {
	ones := indicesOfOnes(list)
	distance := ones[len(ones)-1] - ones[0]
	order := orderByPowers(c, impl.MaxOrder)
	return reasons{
		odd:   len(ones)%2 == 1 && weightOf(coefficients(c))%2 == 0,
		burst: distance+1 <= c.Width,
		pair:  len(ones) == 2 && (order == 0 || order > distance),
	}
}

func TestIsFound(t *testing.T) {
	even := impl.Crc{Width: 3, Poly: 7}
	for _, x := range []struct {
		c    impl.Crc
		bits string
		want bool
	}{
		{three, "011", true},
		{three, "1011", false},
		{three, "1", true},
		{three, "0000010000", true},
		{three, "111", true},
		{three, "0001110", true},
		{three, "1111", false},
		{three, "1101", false},
		{three, "1001", true},
		{three, "1000001", true},
		{three, "10000001", false},
		{three, "100000001", false},
		{three, "00100000100", true},
		{three, "001000000100", false},
		{three, "100000000000001", false},
		{three, "1000010001", false},
		{even, "1000010001", true},
		{even, "1101000", true},
		{even, "11011", false},
		{even, "1001", true},
		{even, "10001", false},
		{even, "100001", false},
		{even, "1111011", false},
		{even, "1111111", true},
		{even, "11111111", false},
	} {
		got, code := impl.IsFound(x.c, bitsOfText(x.bits))
		expectBool(t, fmt.Sprint("IsFound ", x.c, x.bits), got, code, x.want, impl.ErrNone)
	}
}

// Bursts of Width bits are found and those of one more are found for another reason only, wherever they stand.
func TestIsFoundOfBursts(t *testing.T) {
	for _, c := range distanceCodes() {
		for _, extra := range []int{-1, 0, 1, 2} {
			size := int(c.Width) + extra
			for _, burst := range [][]int64{repeated(1, size), onesAt(size, 0, size-1), onesAt(size, 0, 1, size-1), onesAt(size, 0, 1, size-2, size-1), joined([]int64{1}, mixed(size-2, 2, 33), []int64{1})} {
				for _, list := range [][]int64{burst, joined(burst, repeated(0, 30)), joined(repeated(0, 30), burst), joined(repeated(0, 7), burst, repeated(0, 5))} {
					got, code := impl.IsFound(c, list)
					expectBool(t, listName("IsFound", c, list), got, code, reasonsFor(c, list).any(), impl.ErrNone)
					if extra <= 0 && !got {
						t.Error(listName("IsFound", c, list), "is false")
					}
				}
			}
		}
	}
}

// Promise 3 for all short lists of narrow codes: IsFound is true for the told reasons alone, and what is found is not missed.
func TestIsFoundOfAllShortLists(t *testing.T) {
	for _, c := range narrowCodes(6) {
		for _, list := range shortBitLists(9) {
			if weightOf(list) == 0 {
				continue
			}
			got, code := impl.IsFound(c, list)
			expectBool(t, listName("IsFound", c, list), got, code, reasonsFor(c, list).any(), impl.ErrNone)
			if got && (impl.IsMissed(c, list) || missedByReference(c, list)) {
				t.Error(listName("IsFound", c, list), "is true, but the error is missed")
			}
		}
	}
}

// errorLists returns error lists of the weights 1, 2, 3 and others, of short and long bursts, and some that a code misses.
func errorLists(c impl.Crc) [][]int64 {
	lists := [][]int64{{1}, onesAt(40, 0), onesAt(40, 39), repeated(1, 40), repeated(1, 41), coefficients(c)}
	for _, size := range []int{26, 33, 120, 700} {
		for seed := range uint64(6) {
			at := mixed(3, int64(size), seed+uint64(c.Poly))
			lists = append(lists, onesAt(size, int(at[0])), onesAt(size, int(at[0]), int(at[1])), onesAt(size, int(at[0]), int(at[1]), int(at[2])), onesAt(size, 0, int(at[1]), size-1))
			lists = append(lists, with(mixed(size, 2, seed+uint64(c.Poly)+34), int(at[0]), 1))
		}
		lists = append(lists, sealed(c, 0, with(mixed(size, 2, uint64(c.Poly)+35), 0, 1)), onesAt(size, 0, size-1), onesAt(size, 5, size-6))
	}
	return lists
}

// Promise 3 for codes of all widths: IsFound is true for the told reasons alone, and what is found is not missed. Each reason
// is the only one for many lists, and many lists are missed.
func TestFoundErrorsAreNotMissed(t *testing.T) {
	only, missed := map[reasons]int{}, 0
	for _, c := range distanceCodes() {
		for _, list := range errorLists(c) {
			want := reasonsFor(c, list)
			only[want]++
			got, code := impl.IsFound(c, list)
			expectBool(t, listName("IsFound", c, list), got, code, want.any(), impl.ErrNone)
			if impl.IsMissed(c, list) != missedByReference(c, list) {
				t.Error(listName("IsMissed", c, list), "is wrong")
			}
			if impl.IsMissed(c, list) {
				missed++
				if got {
					t.Error(listName("IsFound", c, list), "is true, but the error is missed")
				}
			}
		}
	}
	if only[reasons{odd: true}] < 500 || only[reasons{burst: true}] < 500 || only[reasons{pair: true}] < 500 || only[reasons{}] < 500 || missed < 500 {
		t.Errorf("the reasons are %v, and %d lists are missed", only, missed)
	}
}

// Promise 3 for two errors about the order of a code.
func TestIsFoundOfTwoErrorsAtTheOrder(t *testing.T) {
	for _, c := range distanceCodes() {
		order, code := impl.OrderOf(c)
		if code != impl.ErrNone {
			continue
		}
		for _, d := range []int64{order - 2, order - 1, order, order + 1, 2 * order, 2*order + 1} {
			if d < 1 || d+6 > impl.MaxBits {
				continue
			}
			want := d < order || d < c.Width
			for _, list := range [][]int64{onesAt(int(d)+1, 0, int(d)), onesAt(int(d)+6, 4, int(d)+4)} {
				got, code := impl.IsFound(c, list)
				expectBool(t, listName("IsFound", c, list), got, code, want, impl.ErrNone)
				if got && impl.IsMissed(c, list) {
					t.Error(listName("IsFound", c, list), "is true, but the error is missed")
				}
			}
		}
	}
}

// An order that is greater than MaxOrder counts as greater than any distance, as the document says: so even two errors of which
// the real order is the distance are reported as found, although they are missed.
func TestIsFoundBeyondMaxOrder(t *testing.T) {
	for _, x := range []struct {
		c        impl.Crc
		distance int
		missed   bool
	}{
		{orderAbove, 4999, false}, {orderAbove, 5000, false}, {orderAbove, 5001, false}, {orderAbove, 5004, false}, {orderAbove, 5005, true}, {orderAbove, 5006, false}, {orderAbove, impl.MaxBits - 1, false},
		{orderLongest, 5000, false}, {orderLongest, 8190, false}, {orderLongest, 8191, true}, {impl.Crc{Width: 16, Poly: 0x1021}, impl.MaxBits - 1, false},
	} {
		list := onesAt(impl.MaxBits, 0, x.distance)
		got, code := impl.IsFound(x.c, list)
		expectBool(t, listName("IsFound", x.c, list), got, code, true, impl.ErrNone)
		if impl.IsMissed(x.c, list) != x.missed {
			t.Errorf("IsMissed %d at the distance %d is %v", x.c, x.distance, !x.missed)
		}
	}
	for distance, want := range map[int]bool{4990: true, 4991: false, 4992: false, 5000: false, 5001: false, impl.MaxBits - 1: false} {
		list := onesAt(impl.MaxBits, 0, distance)
		got, code := impl.IsFound(orderBelow, list)
		expectBool(t, listName("IsFound", orderBelow, list), got, code, want, impl.ErrNone)
	}
	// Only two errors are judged by the order.
	for _, ones := range [][]int{{0, 1, 2, 50}, {0, 50, 100}, {0, 40, 80, 120}} {
		list := onesAt(200, ones...)
		got, code := impl.IsFound(orderLongest, list)
		expectBool(t, listName("IsFound", orderLongest, list), got, code, len(ones)%2 == 1 && weightOf(coefficients(orderLongest))%2 == 0, impl.ErrNone)
	}
}

func TestIsFoundOfLongLists(t *testing.T) {
	for _, c := range distanceCodes() {
		for _, list := range [][]int64{repeated(1, impl.MaxBits), onesAt(impl.MaxBits, 0), onesAt(impl.MaxBits, impl.MaxBits-1), onesAt(impl.MaxBits, 0, 4100, impl.MaxBits-1), mixed(impl.MaxBits, 2, 36)} {
			got, code := impl.IsFound(c, list)
			expectBool(t, listName("IsFound", c, list), got, code, reasonsFor(c, list).any(), impl.ErrNone)
		}
	}
}

func TestIsFoundErrors(t *testing.T) {
	zeros := [][]int64{nil, {}, {0}, {0, 0, 0}, repeated(0, 25), repeated(0, impl.MaxBits)}
	for _, c := range []impl.Crc{three, {Width: 3, Poly: 7}, impl.StandardCrc(), orderBelow, orderAbove} {
		for _, list := range append(notBits(), zeros...) {
			got, code := impl.IsFound(c, list)
			expectBool(t, listName("IsFound", c, list), got, code, false, impl.ErrLimit)
		}
	}
	for _, c := range notCrcs() {
		for _, list := range append(zeros, []int64{1}, []int64{1, 1, 1}, []int64{1, 0, 0, 1}, []int64{2}, []int64{-1, 1}, repeated(0, impl.MaxBits+1)) {
			got, code := impl.IsFound(c, list)
			expectBool(t, listName("IsFound", c, list), got, code, false, impl.ErrInvalid)
		}
	}
}

func TestSumErrors(t *testing.T) {
	zeros, ones, long := repeated(0, impl.MaxBits), repeated(1, impl.MaxBits), mixed(impl.MaxBits, 2, 37)
	for _, x := range []struct{ a, b, want []int64 }{
		{[]int64{1, 1, 0}, []int64{0, 1, 1}, []int64{1, 0, 1}},
		{[]int64{0, 0, 1, 1}, []int64{0, 1, 0, 1}, []int64{0, 1, 1, 0}},
		{nil, nil, nil},
		{nil, []int64{}, nil},
		{[]int64{}, nil, nil},
		{[]int64{0}, []int64{0}, []int64{0}},
		{[]int64{1}, []int64{1}, []int64{0}},
		{[]int64{1}, []int64{0}, []int64{1}},
		{zeros, ones, ones},
		{ones, ones, zeros},
		{long, zeros, long},
		{long, long, zeros},
		{onesAt(impl.MaxBits, 0), onesAt(impl.MaxBits, impl.MaxBits-1), onesAt(impl.MaxBits, 0, impl.MaxBits-1)},
	} {
		got, code := impl.SumErrors(x.a, x.b)
		expectList(t, fmt.Sprint("SumErrors ", shortened(x.a), shortened(x.b)), got, code, x.want, impl.ErrNone)
		got, code = impl.SumErrors(x.b, x.a)
		expectList(t, fmt.Sprint("SumErrors ", shortened(x.b), shortened(x.a)), got, code, x.want, impl.ErrNone)
	}
}

// The sum of two lists has as its syndrome the exclusive or of theirs, and with one of them it sums up to the other one.
func TestSumsOfManyLists(t *testing.T) {
	for _, size := range []int{1, 2, 7, 25, 64, 300} {
		for seed := range uint64(20) {
			a, b := mixed(size, 2, seed+38), mixed(size, 2, seed+70)
			sum, code := impl.SumErrors(a, b)
			back, _ := impl.SumErrors(sum, b)
			expectList(t, "SumErrors of a sum", back, code, a, impl.ErrNone)
			for _, c := range []impl.Crc{three, impl.StandardCrc(), orderBelow} {
				one, _ := impl.SyndromeOf(c, a)
				two, _ := impl.SyndromeOf(c, b)
				both, code := impl.SyndromeOf(c, sum)
				expectNumber(t, crcName("SyndromeOf", c, 0, sum), both, code, one^two, impl.ErrNone)
			}
		}
	}
}

func TestSumErrorsErrors(t *testing.T) {
	for _, list := range notBits() {
		for _, other := range [][]int64{nil, {0}, {1, 0, 1}, list, repeated(1, impl.MaxBits)} {
			got, code := impl.SumErrors(list, other)
			expectList(t, fmt.Sprint("SumErrors ", shortened(list), shortened(other)), got, code, nil, impl.ErrInvalid)
			got, code = impl.SumErrors(other, list)
			expectList(t, fmt.Sprint("SumErrors ", shortened(other), shortened(list)), got, code, nil, impl.ErrInvalid)
		}
	}
	lists := [][]int64{nil, {0}, {1, 0}, {1, 0, 1}, repeated(0, 40), repeated(1, impl.MaxBits-1), repeated(1, impl.MaxBits)}
	for i, a := range lists {
		for k, b := range lists {
			if i != k {
				got, code := impl.SumErrors(a, b)
				expectList(t, fmt.Sprint("SumErrors ", shortened(a), shortened(b)), got, code, nil, impl.ErrState)
			}
		}
	}
}

func TestDistanceLeavesMemoryAlone(t *testing.T) {
	for _, c := range []impl.Crc{three, {Width: 3, Poly: 7}, impl.StandardCrc(), {Width: 3, Poly: 2}} {
		for _, list := range append(memoryLists(), []int64{1, 0, 1, 1}, onesAt(40, 2, 30), []int64{0, 0}) {
			checkMemory(t, fmt.Sprint("IsMissed ", c, shortened(list)), func(l [][]int64) []int64 { return truth(impl.IsMissed(c, l[0])) }, list)
			checkMemory(t, fmt.Sprint("IsFound ", c, shortened(list)), func(l [][]int64) []int64 {
				found, code := impl.IsFound(c, l[0])
				return append(truth(found), code)
			}, list)
		}
		for _, span := range []int64{0, 1, 4, 8, impl.MaxSpan, impl.MaxSpan + 1} {
			checkMemory(t, fmt.Sprint("FirstMissed ", c, span), func([][]int64) []int64 { return first(impl.FirstMissed(c, span)) })
		}
	}
	for _, list := range memoryLists() {
		checkMemory(t, "BurstOf "+shortened(list), func(l [][]int64) []int64 {
			at, size, code := impl.BurstOf(l[0])
			return []int64{at, size, code}
		}, list)
		for _, other := range append(memoryLists(), repeated(0, len(list))) {
			checkMemory(t, fmt.Sprint("SumErrors ", shortened(list), shortened(other)), func(l [][]int64) []int64 {
				return first(impl.SumErrors(l[0], l[1]))
			}, list, other)
		}
		checkMemory(t, "SumErrors twice of "+shortened(list), func(l [][]int64) []int64 { return first(impl.SumErrors(l[0], l[0])) }, list)
	}
}

// What is written into a result changes no later result, neither of that code and span nor of others.
func TestFirstMissedKeepsNothing(t *testing.T) {
	for _, c := range narrowCodes(5) {
		for span := int64(1); span <= 20; span++ {
			indices, _ := impl.FirstMissed(c, span)
			fill(indices[:cap(indices)], mark)
			checkSpan(t, c, int(span))
		}
	}
}
