package impl

// The error codes, shared by all chapters.
const (
	ErrNone = iota
	ErrInvalid
	ErrRange
	ErrLimit
	ErrNotFound
	ErrState
	ErrSyntax
	ErrDamage
)

// The limits of chapter 1.
const (
	MaxBits  = 8192
	MaxWidth = 40
)

const (
	byteWidth    = 8
	greatestBit  = 1
	greatestByte = 255
)

// IsBits reports whether list is a bit list.
func IsBits(list []int64) bool { return isListWithin(list, MaxBits, greatestBit) }

// IsBytes reports whether list is a byte list.
func IsBytes(list []int64) bool { return isListWithin(list, MaxBits/byteWidth, greatestByte) }

// isListWithin reports whether list has at most size elements, each in 0..greatest.
func isListWithin(list []int64, size int, greatest int64) bool {
	if len(list) > size {
		return false
	}
	for _, element := range list {
		if element < 0 || element > greatest {
			return false
		}
	}
	return true
}

// AppendNumber returns a bit list with a number appended in a width, and ErrNone.
//
// Errors, in this order: ErrInvalid if list is not a bit list; ErrRange if width is not in
// 0..MaxWidth or value not in 0..2^width - 1; ErrLimit if there would be more than MaxBits bits.
func AppendNumber(list []int64, value int64, width int64) ([]int64, int64) {
	if !IsBits(list) {
		return nil, ErrInvalid
	}
	if !isWidth(width) || value < 0 || value >= 1<<width {
		return nil, ErrRange
	}
	size := int64(len(list)) + width
	if size > MaxBits {
		return nil, ErrLimit
	}
	bits := make([]int64, len(list), size)
	copy(bits, list)
	return pushNumber(bits, value, width), ErrNone
}

// isWidth reports whether width is in 0..MaxWidth.
func isWidth(width int64) bool { return width >= 0 && width <= MaxWidth }

// pushNumber appends value to bits in place, so bits must not be an argument of an exported
// function.
func pushNumber(bits []int64, value int64, width int64) []int64 {
	for shift := width - 1; shift >= 0; shift-- {
		bits = append(bits, value>>shift&1)
	}
	return bits
}

// NumberAt returns the number that stands from an index on in a width, and ErrNone.
//
// Errors, in this order: ErrInvalid if list is not a bit list; ErrRange if width is not in
// 0..MaxWidth, or there are not so many bits from the index at on.
func NumberAt(list []int64, at int64, width int64) (int64, int64) {
	if !IsBits(list) {
		return 0, ErrInvalid
	}
	// The width is subtracted from the length: at + width could overflow.
	if !isWidth(width) || at < 0 || at > int64(len(list))-width {
		return 0, ErrRange
	}
	return numberOf(list[at : at+width]), ErrNone
}

// numberOf returns the number whose bits are given, of which there are at most MaxWidth.
func numberOf(bits []int64) int64 {
	var number int64
	for _, bit := range bits {
		number = number<<1 | bit
	}
	return number
}

// BytesToBits returns the bits of a byte list, eight for each byte, and ErrNone. It returns nil
// and ErrInvalid if list is not a byte list.
func BytesToBits(list []int64) ([]int64, int64) {
	if !IsBytes(list) {
		return nil, ErrInvalid
	}
	bits := make([]int64, 0, len(list)*byteWidth)
	for _, value := range list {
		bits = pushNumber(bits, value, byteWidth)
	}
	return bits, ErrNone
}

// BitsToBytes returns the byte list with these bits, and ErrNone. Errors, in this order:
// ErrInvalid if list is not a bit list; ErrState if its length is not a multiple of 8.
func BitsToBytes(list []int64) ([]int64, int64) {
	if !IsBits(list) {
		return nil, ErrInvalid
	}
	if len(list)%byteWidth != 0 {
		return nil, ErrState
	}
	bytes := make([]int64, len(list)/byteWidth)
	for i := range bytes {
		bytes[i] = numberOf(list[i*byteWidth : (i+1)*byteWidth])
	}
	return bytes, ErrNone
}

// bytesOfNumber returns a number in some bytes, the most significant one first. It must have room
// in them.
func bytesOfNumber(value int64, size int64) []int64 {
	bytes, _ := BitsToBytes(pushNumber(nil, value, size*byteWidth))
	return bytes
}

// FlipBits returns the bit list in which the bits at some indices are the other ones, and
// ErrNone. Errors, in this order: ErrInvalid if list is not a bit list; ErrRange if indices are
// not strictly increasing indices of it.
func FlipBits(list []int64, indices []int64) ([]int64, int64) {
	if !IsBits(list) {
		return nil, ErrInvalid
	}
	if !areIndices(indices, len(list)) {
		return nil, ErrRange
	}
	bits := make([]int64, len(list))
	copy(bits, list)
	for _, index := range indices {
		bits[index] ^= 1
	}
	return bits, ErrNone
}

// areIndices reports whether indices are strictly increasing indices of a list of a length.
func areIndices(indices []int64, length int) bool {
	before := int64(-1)
	for _, index := range indices {
		if index <= before || index >= int64(length) {
			return false
		}
		before = index
	}
	return true
}

// DifferingBits returns the indices at which two bit lists differ, strictly increasing, and
// ErrNone. Errors, in this order: ErrInvalid if a or b is not a bit list; ErrState if they have
// different lengths.
func DifferingBits(a []int64, b []int64) ([]int64, int64) {
	if !IsBits(a) || !IsBits(b) {
		return nil, ErrInvalid
	}
	if len(a) != len(b) {
		return nil, ErrState
	}
	var indices []int64
	for i := range a {
		if a[i] != b[i] {
			indices = append(indices, int64(i))
		}
	}
	return indices, ErrNone
}

// BitsText returns the bits as characters 0 and 1. It returns "" if list is not a bit list.
func BitsText(list []int64) string {
	if !IsBits(list) {
		return ""
	}
	text := make([]byte, len(list))
	for i, bit := range list {
		text[i] = '0' + byte(bit)
	}
	return string(text)
}

// ReadBits returns the bit list whose BitsText is s, and true, or nil and false if there is none;
// the empty string yields the empty list.
func ReadBits(s string) ([]int64, bool) {
	if len(s) > MaxBits {
		return nil, false
	}
	bits := make([]int64, len(s))
	for i := range bits {
		if s[i] != '0' && s[i] != '1' {
			return nil, false
		}
		bits[i] = int64(s[i] - '0')
	}
	return bits, true
}
