package tests

import (
	"fmt"
	"slices"
	"testing"

	"loop.example/g00833/impl"
)

// mostData is the greatest number of bytes that have an image.
const mostData = impl.MaxBlocks * impl.BlockData

// checkOfBlock returns the bytes of the check number of the other bytes of the block k. It does not use the program.
func checkOfBlock(k int, others []int64) []int64 {
	number := reference(standardCrc, int64(k)+1, bitsOfBytes(others))
	return bytesByReference(bitsOfText(textOfNumber(number, 24)))
}

// blockByReference returns the block k with a part, also if its number of bytes, or its mark, is that of no block. It does
// not use the program.
func blockByReference(k int, first int64, second int64, part []int64) []int64 {
	others := joined([]int64{first, second}, part)
	return joined(others, checkOfBlock(k, others))
}

// imageByReference returns the image of at most mostData bytes. It does not use the program.
func imageByReference(data []int64) []int64 {
	var image []int64
	rest := data
	for k := 0; len(rest) > 28; k++ {
		image = joined(image, blockByReference(k, int64(k), 28, rest[:28]))
		rest = rest[28:]
	}
	k := len(image) / 33
	return joined(image, blockByReference(k, int64(k), int64(len(rest))+128, rest))
}

// slicesByReference returns all slices of a byte list: one without bytes if there are none. It does not use the program.
func slicesByReference(image []int64) [][]int64 {
	if len(image) <= 33 {
		return [][]int64{image}
	}
	return append([][]int64{image[:33]}, slicesByReference(image[33:])...)
}

// checked returns a byte list in which each slice of at least three bytes ends with its check number. It does not use the
// program.
func checked(image []int64) []int64 {
	var list []int64
	for k, slice := range slicesByReference(image) {
		if len(slice) >= 3 {
			slice = slice[:len(slice)-3]
			slice = joined(slice, checkOfBlock(k, slice))
		}
		list = append(list, slice...)
	}
	return list
}

// damagedByReference returns the indices of the damaged slices of a byte list. It does not use the program.
func damagedByReference(image []int64) []int64 {
	var list []int64
	for k, slice := range slicesByReference(image) {
		if size := len(slice) - 3; size < 2 || !slices.Equal(checkOfBlock(k, slice[:size]), slice[size:]) {
			list = append(list, int64(k))
		}
	}
	return list
}

// dataByReference returns what DataOfImage returns for a byte list. It does not use the program.
func dataByReference(image []int64) ([]int64, int64) {
	if len(damagedByReference(image)) > 0 {
		return nil, impl.ErrDamage
	}
	var data []int64
	all := slicesByReference(image)
	for k, slice := range all {
		size := int64(len(slice) - 5)
		second := size
		if k == len(all)-1 {
			second += 128
		}
		if slice[0] != int64(k) || slice[1] != second || size == 0 && k > 0 {
			return nil, impl.ErrSyntax
		}
		data = append(data, slice[2:2+size]...)
	}
	return data, impl.ErrNone
}

// expectImage fails the test if ImageOf does not return this image. It is called so often that the call is named only in a
// failure, as are those below.
func expectImage(t *testing.T, data []int64, want []int64, wantCode int64) {
	t.Helper()
	if got, code := impl.ImageOf(data); code != wantCode || !slices.Equal(got, want) {
		t.Errorf("ImageOf %d bytes %s: %v, code %d, want %v, code %d", len(data), shortened(data), got, code, want, wantCode)
	}
}

func expectData(t *testing.T, image []int64, want []int64, wantCode int64) {
	t.Helper()
	if got, code := impl.DataOfImage(image); code != wantCode || !slices.Equal(got, want) {
		t.Errorf("DataOfImage %d bytes %v: %v, code %d, want %v, code %d", len(image), image, got, code, want, wantCode)
	}
}

func expectDamaged(t *testing.T, image []int64, want []int64, wantCode int64) {
	t.Helper()
	if got, code := impl.DamagedBlocks(image); code != wantCode || !slices.Equal(got, want) {
		t.Errorf("DamagedBlocks %d bytes %v: %v, code %d, want %v, code %d", len(image), image, got, code, want, wantCode)
	}
}

func expectBlock(t *testing.T, image []int64, k int64, want []int64, wantCode int64) {
	t.Helper()
	if got, code := impl.BlockAt(image, k); code != wantCode || !slices.Equal(got, want) {
		t.Errorf("BlockAt %d bytes %s at %d: %v, code %d, want %v, code %d", len(image), shortened(image), k, got, code, want, wantCode)
	}
}

func expectImageSize(t *testing.T, n int64, want int64, wantCode int64) {
	t.Helper()
	got, code := impl.ImageSize(n)
	expectNumber(t, fmt.Sprint("ImageSize ", n), got, code, want, wantCode)
}

func expectBlockOfByte(t *testing.T, n int64, at int64, want int64, wantCode int64) {
	t.Helper()
	if got, code := impl.BlockOfByte(n, at); got != want || code != wantCode {
		t.Errorf("BlockOfByte %d %d: %d, code %d, want %d, code %d", n, at, got, code, want, wantCode)
	}
}

// expectBlocks fails the test if BlockAt does not return the slices of a byte list at their indices alone.
func expectBlocks(t *testing.T, image []int64) {
	t.Helper()
	all := slicesByReference(image)
	if len(image) == 0 {
		all = nil
	}
	for k, slice := range all {
		expectBlock(t, image, int64(k), slice, impl.ErrNone)
	}
	count := int64(len(all))
	for _, k := range []int64{-1, count, count + 1, -count - 1, least, greatest} {
		expectBlock(t, image, k, nil, impl.ErrNotFound)
	}
}

// checkImage compares what is read from a byte list with the reference, and returns the code of DataOfImage. What it
// accepts must be the image of its data.
func checkImage(t *testing.T, image []int64) int64 {
	t.Helper()
	expectDamaged(t, image, damagedByReference(image), impl.ErrNone)
	data, code := dataByReference(image)
	expectData(t, image, data, code)
	if code == impl.ErrNone {
		expectImage(t, data, image, impl.ErrNone)
		expectImageSize(t, int64(len(data)), int64(len(image)), impl.ErrNone)
	}
	return code
}

// edgeSizes returns the numbers of data bytes at the ends of the blocks.
func edgeSizes() []int {
	return []int{0, 1, 2, 27, 28, 29, 55, 56, 57, 83, 84, 85, 223, 224, 225, 447, 448, 449, 839, 840, 841, 866, 867, 868}
}

// datasOf returns byte lists of a size: of one byte, of bytes of which some are the heads of blocks, and mixed ones.
func datasOf(size int) [][]int64 {
	heads := repeated(128, size)
	for i := range heads {
		heads[i] = []int64{0, 156, int64(i) / 28, 28, 128}[i%5]
	}
	return [][]int64{repeated(0, size), repeated(255, size), heads, mixed(size, 256, uint64(size)+140), mixed(size, 256, uint64(size)+5140)}
}

func TestConstantsOfBlocks(t *testing.T) {
	expectList(t, "the constants", []int64{impl.BlockData, impl.MaxBlocks}, 0, []int64{28, 31}, 0)
}

// The check numbers have been computed by other means.
func TestKnownImages(t *testing.T) {
	for _, x := range []struct {
		data  []int64
		image []int64
	}{
		{nil, []int64{0, 128, 111, 235, 204}},
		{[]int64{}, []int64{0, 128, 111, 235, 204}},
		{[]int64{0}, []int64{0, 129, 0, 132, 13, 249}},
		{[]int64{1, 2}, []int64{0, 130, 1, 2, 55, 117, 217}},
		{repeated(255, 27), joined([]int64{0, 155}, repeated(255, 27), []int64{109, 15, 52})},
		{rising(28), joined([]int64{0, 156}, rising(28), []int64{171, 156, 240})},
		{repeated(7, 29), joined([]int64{0, 28}, repeated(7, 28), []int64{206, 211, 99, 1, 129, 7, 165, 184, 74})},
		{rising(156)[100:], joined([]int64{0, 28}, rising(156)[100:128], []int64{99, 217, 253, 1, 156}, rising(156)[128:], []int64{4, 223, 177})},
		{repeated(0, 57), joined([]int64{0, 28}, repeated(0, 28), []int64{49, 27, 176, 1, 28}, repeated(0, 28), []int64{185, 95, 142, 2, 129, 0, 44, 8, 199})},
	} {
		expectImage(t, x.data, x.image, impl.ErrNone)
		expectData(t, x.image, x.data, impl.ErrNone)
		expectDamaged(t, x.image, nil, impl.ErrNone)
		expectBlocks(t, x.image)
		expectList(t, "the reference", imageByReference(x.data), 0, x.image, 0)
	}
}

// The last block of the longest data has been computed by other means.
func TestLongestImage(t *testing.T) {
	data := make([]int64, mostData)
	for i := range data {
		data[i] = int64(i) * 37 % 256
	}
	image, code := impl.ImageOf(data)
	expectNumber(t, "the size of the longest image", int64(len(image)), code, 1023, impl.ErrNone)
	expectBlock(t, image, 0, joined([]int64{0, 28}, data[:28], []int64{121, 107, 120}), impl.ErrNone)
	expectBlock(t, image, 30, joined([]int64{30, 156}, data[840:], []int64{135, 248, 105}), impl.ErrNone)
	expectBlock(t, image, 31, nil, impl.ErrNotFound)
	expectData(t, image, data, impl.ErrNone)
}

func TestImageOfErrors(t *testing.T) {
	for _, size := range []int{869, 870, 895, 896, 897, 1000, 1019, 1023, 1024} {
		for _, data := range datasOf(size) {
			expectImage(t, data, nil, impl.ErrLimit)
		}
		for _, index := range []int{0, 1, 28, 867, 868, size - 1} {
			expectImage(t, with(repeated(0, size), index, 256), nil, impl.ErrRange)
			expectImage(t, with(repeated(0, size), index, -1), nil, impl.ErrRange)
		}
	}
	for _, size := range []int{1025, 1026, 1057, 2048, 8192, 8193} {
		expectImage(t, repeated(0, size), nil, impl.ErrRange)
	}
	for _, data := range notBytes() {
		expectImage(t, data, nil, impl.ErrRange)
	}
	for _, size := range []int{1, 27, 28, 29, 56, 867, 868} {
		for _, wrong := range []int64{-1, 256, least, greatest, 1 << 32, -256} {
			for _, index := range []int{0, size / 2, size - 1} {
				expectImage(t, with(mixed(size, 256, 141), index, wrong), nil, impl.ErrRange)
			}
		}
	}
}

func TestImageSize(t *testing.T) {
	for _, x := range [][]int64{
		{0, 5}, {1, 6}, {2, 7}, {27, 32}, {28, 33}, {29, 39}, {55, 65}, {56, 66}, {57, 72}, {84, 99}, {85, 105},
		{839, 989}, {840, 990}, {841, 996}, {867, 1022}, {868, 1023},
	} {
		expectImageSize(t, x[0], x[1], impl.ErrNone)
	}
	for _, n := range []int64{-1, -2, -5, -27, -28, -29, -868, 869, 870, 896, 1019, 1023, 1024, 1025, 1 << 32, 1<<32 + 1, -1 << 32, least, least + 1, greatest - 27, greatest - 5, greatest} {
		expectImageSize(t, n, 0, impl.ErrRange)
	}
	for n := range int64(3000) {
		expectImageSize(t, n+869, 0, impl.ErrRange)
		expectImageSize(t, -n-1, 0, impl.ErrRange)
	}
}

// Promise 1, images: data of all lengths are recovered from their image, whose blocks are those that BlockAt returns.
func TestDataAreRecovered(t *testing.T) {
	for size := range mostData + 1 {
		for _, data := range datasOf(size) {
			image, code := impl.ImageOf(data)
			if code != impl.ErrNone {
				t.Fatalf("ImageOf %d bytes: code %d", size, code)
			}
			expectData(t, image, data, impl.ErrNone)
			expectImageSize(t, int64(size), int64(len(image)), impl.ErrNone)
			expectDamaged(t, image, nil, impl.ErrNone)
			var blocks []int64
			for k := int64(0); ; k++ {
				block, code := impl.BlockAt(image, k)
				if code != impl.ErrNone {
					expectNumber(t, "the code behind the last block", code, 0, impl.ErrNotFound, 0)
					break
				}
				blocks = append(blocks, block...)
			}
			expectList(t, "the blocks together", blocks, 0, image, 0)
		}
	}
}

// Promise 1, images: the images of data of all lengths are those of the reference.
func TestImagesOfAllSizes(t *testing.T) {
	for size := range mostData + 1 {
		data := mixed(size, 256, uint64(size)+142)
		expectImage(t, data, imageByReference(data), impl.ErrNone)
	}
	for _, size := range edgeSizes() {
		for _, data := range datasOf(size) {
			image := imageByReference(data)
			expectImage(t, data, image, impl.ErrNone)
			expectData(t, image, data, impl.ErrNone)
			expectBlocks(t, image)
		}
	}
}

// Data of one byte are tried with all bytes, and some of two bytes.
func TestImagesOfShortData(t *testing.T) {
	for value := range int64(256) {
		for _, data := range [][]int64{{value}, {value, 0}, {0, value}, {value, 255 - value}} {
			image := imageByReference(data)
			expectImage(t, data, image, impl.ErrNone)
			expectData(t, image, data, impl.ErrNone)
		}
	}
}

// Promise 1, images: each byte of the data stands in the block that BlockOfByte tells, and in no other one.
func TestBytesStandInTheirBlocks(t *testing.T) {
	for size := range mostData + 1 {
		data := mixed(size, 256, uint64(size)+143)
		image, _ := impl.ImageOf(data)
		for at, value := range data {
			k, code := impl.BlockOfByte(int64(size), int64(at))
			start := int(k)*33 + 2
			if code != impl.ErrNone || start+at%28 >= len(image) || image[start+at%28] != value {
				t.Fatalf("BlockOfByte %d %d: %d, code %d", size, at, k, code)
			}
		}
	}
}

// Promise 1, images: another byte of the data changes the block that BlockOfByte tells, and no other one.
func TestOtherBytesChangeTheirBlocks(t *testing.T) {
	for _, size := range edgeSizes() {
		data := mixed(size, 256, uint64(size)+144)
		image, _ := impl.ImageOf(data)
		step := 1 + size/200
		for at := 0; at < size; at += step {
			other, _ := impl.ImageOf(with(data, at, data[at]^1<<(at%8)))
			if len(other) != len(image) {
				t.Fatalf("images of %d bytes have %d and %d bytes", size, len(image), len(other))
			}
			var changed []int64
			for k := range slicesByReference(image) {
				a, _ := impl.BlockAt(image, int64(k))
				b, _ := impl.BlockAt(other, int64(k))
				if !slices.Equal(a, b) {
					changed = append(changed, int64(k))
				}
			}
			k, code := impl.BlockOfByte(int64(size), int64(at))
			expectList(t, fmt.Sprint("the changed blocks at ", at, " of ", size), changed, code, []int64{k}, impl.ErrNone)
		}
	}
}

func TestBlockOfByte(t *testing.T) {
	for _, x := range [][]int64{
		{1, 0, 0}, {2, 1, 0}, {27, 26, 0}, {28, 0, 0}, {28, 27, 0}, {29, 27, 0}, {29, 28, 1}, {56, 27, 0}, {56, 28, 1}, {56, 55, 1}, {57, 55, 1}, {57, 56, 2},
		{868, 0, 0}, {868, 839, 29}, {868, 840, 30}, {868, 867, 30}, {867, 866, 30}, {841, 840, 30}, {840, 839, 29}, {100, 84, 3}, {100, 83, 2},
	} {
		expectBlockOfByte(t, x[0], x[1], x[2], impl.ErrNone)
	}
}

// All numbers of bytes are tried with all indices, and with numbers that are no indices.
func TestBlockOfByteOfAllIndices(t *testing.T) {
	for n := range int64(mostData + 1) {
		k := int64(-1)
		for at := range n {
			if at%28 == 0 {
				k++
			}
			expectBlockOfByte(t, n, at, k, impl.ErrNone)
		}
		for _, at := range []int64{-1, -2, -28, -n, -n - 1, n, n + 1, n + 28, 867, 868, 869, 1 << 32, least, least + 1, greatest - 1, greatest} {
			if at < 0 || at >= n {
				expectBlockOfByte(t, n, at, 0, impl.ErrRange)
			}
		}
	}
	for _, n := range []int64{-1, -2, -28, -868, 869, 870, 896, 1024, 1 << 32, 1<<32 + 1, least, least + 1, greatest - 1, greatest} {
		for _, at := range []int64{-1, 0, 1, 27, 28, 867, 868, 869, n - 1, n, n + 1, least, greatest} {
			expectBlockOfByte(t, n, at, 0, impl.ErrRange)
		}
	}
}

// wrongBytes are numbers that are no bytes.
func wrongBytes() []int64 { return []int64{-1, 256, -256, 384, 1 << 32, -1 << 32, least, greatest} }

// notByteImages returns lists that are no byte lists: those of chapter 1, and images with an element that is no byte.
func notByteImages() [][]int64 {
	lists := notBytes()
	for _, size := range []int{0, 1, 28, 29, 57, 868} {
		image := imageByReference(mixed(size, 256, 145))
		for _, index := range []int{0, 1, 2, len(image) / 2, len(image) - 3, len(image) - 1} {
			for _, wrong := range append(wrongBytes(), image[index]+256, image[index]-256, image[index]+1<<40) {
				lists = append(lists, with(image, index, wrong))
			}
		}
		lists = append(lists, joined(image, repeated(0, maxBytes+1-len(image))), joined(image, []int64{256}), joined([]int64{-1}, image))
	}
	return lists
}

// A list that is no byte list is refused first, whatever its other bytes and k are.
func TestImageErrRange(t *testing.T) {
	for _, image := range notByteImages() {
		expectData(t, image, nil, impl.ErrRange)
		expectDamaged(t, image, nil, impl.ErrRange)
		for _, k := range []int64{0, 1, 2, 31, 32, -1, least, greatest} {
			expectBlock(t, image, k, nil, impl.ErrRange)
		}
	}
}

// Lists that are too short for a block are damaged, as one without bytes is, which has one slice but no block.
func TestShortImages(t *testing.T) {
	for _, image := range [][]int64{nil, {}, {0}, {0, 128}, {0, 128, 111}, {0, 128, 111, 235}, {128, 111, 235, 204}, repeated(0, 1), repeated(0, 2), repeated(0, 3), repeated(0, 4)} {
		expectDamaged(t, image, []int64{0}, impl.ErrNone)
		expectData(t, image, nil, impl.ErrDamage)
		expectBlocks(t, image)
	}
	// With fewer than five bytes, the right check number of one byte, or of none, does not help.
	for value := range int64(256) {
		image := joined([]int64{value}, checkOfBlock(0, []int64{value}))
		expectDamaged(t, image, []int64{0}, impl.ErrNone)
		expectData(t, image, nil, impl.ErrDamage)
		long := joined(imageByReference(repeated(0, 28)), []int64{value}, checkOfBlock(1, []int64{value}))
		expectDamaged(t, long, []int64{1}, impl.ErrNone)
		expectData(t, long, nil, impl.ErrDamage)
	}
	expectDamaged(t, checkOfBlock(0, nil), []int64{0}, impl.ErrNone)
	expectDamaged(t, joined(imageByReference(repeated(0, 28)), checkOfBlock(1, nil)), []int64{1}, impl.ErrNone)
}

// Lists of five bytes have a head and a check number. One head alone is that of an image.
func TestImagesOfFiveBytes(t *testing.T) {
	for first := range int64(4) {
		for second := range int64(256) {
			image := blockByReference(0, first, second, nil)
			expectDamaged(t, image, nil, impl.ErrNone)
			want := int64(impl.ErrSyntax)
			if first == 0 && second == 128 {
				want = impl.ErrNone
			}
			expectData(t, image, nil, want)
			expectData(t, with(image, 4, image[4]^1), nil, impl.ErrDamage)
		}
	}
}

// Images of one block are filled up around the length of a whole block. In each length up to it one head is right.
func TestImagesAroundOneBlock(t *testing.T) {
	codes := map[int64]int{}
	for size := 1; size <= 80; size++ {
		list := mixed(size, 256, 146)
		codes[checkImage(t, list)]++
		codes[checkImage(t, checked(list))]++
		if size >= 2 {
			list[0] = 0
			for second := range int64(256) {
				codes[checkImage(t, checked(with(list, 1, second)))]++
			}
		}
	}
	if codes[impl.ErrNone] != 29 || codes[impl.ErrSyntax] < 5000 || codes[impl.ErrDamage] < 500 {
		t.Errorf("the lists have the codes %v", codes)
	}
	expectData(t, blockByReference(0, 0, 155, repeated(9, 27)), repeated(9, 27), impl.ErrNone)
	expectData(t, blockByReference(0, 0, 156, repeated(9, 28)), repeated(9, 28), impl.ErrNone)
	// A part of 29 bytes leaves the last byte of its check number to the next slice.
	expectDamage(t, blockByReference(0, 0, 157, repeated(9, 29)), 0, 1)
}

// An image that is cut off anywhere has no data.
func TestImagesThatAreCutOff(t *testing.T) {
	for _, size := range []int{0, 1, 27, 28, 29, 56, 57, 100, 868} {
		image := imageByReference(mixed(size, 256, uint64(size)+148))
		for end := range image {
			part := image[:end]
			want := int64(impl.ErrDamage)
			if end > 0 && end%33 == 0 {
				want = impl.ErrSyntax // The last block that is left is not marked as the last one.
			}
			expectData(t, part, nil, want)
			expectBlocks(t, part)
			if end%33 > 0 || end == 0 {
				expectDamaged(t, part, []int64{int64(end / 33)}, impl.ErrNone)
			} else {
				expectDamaged(t, part, nil, impl.ErrNone)
			}
			// With a right check number behind it the part is no image either, as the number of its bytes is another one.
			if end%33 >= 5 {
				expectDamaged(t, checked(part), nil, impl.ErrNone)
				expectData(t, checked(part), nil, impl.ErrSyntax)
			}
		}
	}
}

// wholeBlocks returns the blocks of an image as lists.
func wholeBlocks(size int, seed uint64) [][]int64 {
	return slicesByReference(imageByReference(mixed(size, 256, seed)))
}

// expectNoImage fails the test if blocks put together have data, or have data with right check numbers. All that is wrong
// with these is the order of the blocks or their heads.
func expectNoImage(t *testing.T, blocks ...[]int64) {
	t.Helper()
	image := joined(blocks...)
	expectDamaged(t, image, damagedByReference(image), impl.ErrNone)
	want := int64(impl.ErrSyntax)
	if len(damagedByReference(image)) > 0 {
		want = impl.ErrDamage
	}
	expectData(t, image, nil, want)
	if right := checked(image); len(image)%33 == 0 || len(image)%33 >= 5 {
		expectDamaged(t, right, nil, impl.ErrNone)
		expectData(t, right, nil, impl.ErrSyntax)
	}
}

func TestImagesWithTooManyBlocks(t *testing.T) {
	for _, size := range []int{28, 56, 84, 840} {
		blocks := wholeBlocks(size, 149)
		count := len(blocks)
		k := int64(count)
		for _, part := range [][]int64{nil, {0}, {5, 6}, repeated(0, 27), repeated(0, 28)} {
			more := blockByReference(count, k, int64(len(part))+128, part)
			expectNoImage(t, append(blocks, more)...)
			if len(part) > 0 {
				// The same blocks are an image once the mark stands in the last one alone.
				unmarked := blockByReference(count-1, k-1, 28, blocks[count-1][2:30])
				image := joined(joined(blocks[:count-1]...), unmarked, more)
				expectData(t, image, joined(mixed(size, 256, 149), part), impl.ErrNone)
			}
		}
		// An empty part is that of the only block alone.
		unmarked := blockByReference(count-1, k-1, 28, blocks[count-1][2:30])
		expectNoImage(t, append(slices.Clone(blocks[:count-1]), unmarked, blockByReference(count, k, 128, nil))...)
	}
	// The bytes behind the longest image are one too few for a block.
	longest := imageByReference(mixed(mostData, 256, 150))
	for _, value := range []int64{0, 31, 128, 255} {
		image := joined(longest, []int64{value})
		expectDamaged(t, image, []int64{31}, impl.ErrNone)
		expectData(t, image, nil, impl.ErrDamage)
		expectBlock(t, image, 31, []int64{value}, impl.ErrNone)
		expectBlocks(t, image)
	}
}

func TestImagesWithoutABlock(t *testing.T) {
	for _, size := range []int{29, 56, 57, 84, 100, 224} {
		blocks := wholeBlocks(size, 151)
		for k := range blocks {
			if len(blocks) > 1 {
				expectNoImage(t, slices.Delete(slices.Clone(blocks), k, k+1)...)
			}
		}
	}
}

func TestImagesInAnotherOrder(t *testing.T) {
	for _, size := range []int{29, 56, 57, 84, 100, 224} {
		blocks := wholeBlocks(size, 152)
		for a := range blocks {
			for b := range a {
				other := slices.Clone(blocks)
				other[a], other[b] = other[b], other[a]
				expectNoImage(t, other...)
			}
		}
	}
}

// Blocks of equal bytes are not mistaken for one another.
func TestImagesWithABlockTwice(t *testing.T) {
	for _, size := range []int{0, 5, 28, 29, 56, 57, 84, 224} {
		for _, data := range datasOf(size) {
			blocks := slicesByReference(imageByReference(data))
			for k, block := range blocks {
				expectNoImage(t, slices.Insert(slices.Clone(blocks), k, block)...)
				if k > 0 {
					expectNoImage(t, append(slices.Clone(blocks[:k]), slices.Concat(blocks[k-1:k], blocks[k+1:])...)...)
				}
			}
		}
	}
}

// The heads of single blocks are changed to all other ones, with right check numbers.
func TestImagesWithOtherHeads(t *testing.T) {
	for _, size := range []int{0, 1, 27, 28, 29, 56, 57, 100} {
		blocks := wholeBlocks(size, 153)
		for k, block := range blocks {
			for index := range 2 {
				for value := range int64(256) {
					if value == block[index] {
						continue
					}
					other := slices.Clone(blocks)
					other[k] = checkedBlock(k, with(block, index, value))
					expectDamaged(t, joined(other...), nil, impl.ErrNone)
					expectData(t, joined(other...), nil, impl.ErrSyntax)
				}
			}
		}
	}
}

// checkedBlock returns the block k with its right check number. It does not use the program.
func checkedBlock(k int, block []int64) []int64 {
	others := block[:len(block)-3]
	return joined(others, checkOfBlock(k, others))
}

// A last block without its mark, another block with it, and both.
func TestImagesWithOtherMarks(t *testing.T) {
	for _, size := range []int{0, 1, 28, 29, 56, 57, 84, 448, 868} {
		blocks := wholeBlocks(size, 154)
		last := len(blocks) - 1
		unmarked := checkedBlock(last, with(blocks[last], 1, blocks[last][1]-128))
		expectNoImage(t, append(slices.Clone(blocks[:last]), unmarked)...)
		for k := range last {
			other := slices.Clone(blocks)
			other[k] = checkedBlock(k, with(blocks[k], 1, 156))
			expectNoImage(t, other...)
			other[last] = unmarked
			expectNoImage(t, other...)
		}
	}
}

// A shorter block before the last one moves the blocks behind it out of their slices. If its slice is filled up, the number
// of its bytes is not that of its part.
func TestImagesWithShorterBlocks(t *testing.T) {
	for _, size := range []int{29, 56, 57, 84, 100} {
		blocks := wholeBlocks(size, 155)
		for k := range len(blocks) - 1 {
			for _, length := range []int{0, 1, 14, 27} {
				other := slices.Clone(blocks)
				other[k] = blockByReference(k, int64(k), int64(length), blocks[k][2:2+length])
				image := joined(other...)
				checkImage(t, image)
				expectData(t, image, nil, impl.ErrDamage)
				other[k] = checkedBlock(k, with(blocks[k], 1, int64(length)))
				expectNoImage(t, other...)
				other[k] = checkedBlock(k, with(blocks[k], 1, int64(length)+128))
				expectNoImage(t, other...)
			}
		}
	}
}

// The numbers of a block and of its check number are those of its place.
func TestBlocksOfOtherPlaces(t *testing.T) {
	for k := range 40 {
		for seed := range 40 {
			block := blockByReference(seed, int64(k), 130, []int64{5, 6})
			want := int64(impl.ErrNone)
			if seed != 0 {
				want = impl.ErrDamage
			} else if k != 0 {
				want = impl.ErrSyntax
			}
			data := []int64{5, 6}
			if want != impl.ErrNone {
				data = nil
			}
			expectData(t, block, data, want)
		}
	}
}

// Lists of zeros, and the longest byte lists.
func TestImagesOfManyBytes(t *testing.T) {
	for size := range maxBytes + 1 {
		if size < 80 || size > 980 || size%17 == 0 {
			checkImage(t, repeated(0, size))
			expectBlocks(t, repeated(0, size))
		}
	}
	expectDamaged(t, repeated(0, maxBytes), rising(32), impl.ErrNone)
	for _, size := range []int{989, 990, 991, 995, 1022, 1023, 1024} {
		for _, data := range datasOf(size) {
			for _, image := range [][]int64{data, checked(data)} {
				checkImage(t, image)
				expectBlocks(t, image)
			}
		}
	}
	right := checked(mixed(maxBytes, 256, 156))
	expectDamaged(t, right, []int64{31}, impl.ErrNone)
	expectData(t, right, nil, impl.ErrDamage)
	expectDamaged(t, right[:1023], nil, impl.ErrNone)
	expectData(t, right[:1023], nil, impl.ErrSyntax)
}

func TestBlockAt(t *testing.T) {
	list := mixed(100, 256, 157)
	expectBlock(t, list, 0, list[:33], impl.ErrNone)
	expectBlock(t, list, 1, list[33:66], impl.ErrNone)
	expectBlock(t, list, 2, list[66:99], impl.ErrNone)
	expectBlock(t, list, 3, list[99:], impl.ErrNone)
	// Modulo 2^64, the last two times 33 are 17 and 16, which are indices of the list.
	for _, k := range []int64{4, 5, 31, 32, 33, -1, -2, -3, -33, 1 << 32, 1<<32 + 1, 1 << 62, 1<<62 + 1, least, least + 1, greatest, greatest - 1, 558992244657865201, -558992244657865200} {
		expectBlock(t, list, k, nil, impl.ErrNotFound)
	}
	for size := range maxBytes + 1 {
		if size%33 <= 1 || size%33 == 32 || size == maxBytes {
			expectBlocks(t, mixed(size, 256, uint64(size)+158))
		}
	}
	longest := mixed(maxBytes, 256, 159)
	expectBlock(t, longest, 30, longest[990:1023], impl.ErrNone)
	expectBlock(t, longest, 31, longest[1023:], impl.ErrNone)
	expectBlock(t, longest, 32, nil, impl.ErrNotFound)
	for _, k := range []int64{0, 1, -1, least, greatest} {
		expectBlock(t, nil, k, nil, impl.ErrNotFound)
		expectBlock(t, []int64{}, k, nil, impl.ErrNotFound)
	}
}

// Promise 1, images: what is accepted is the image of its data. The lists are images with other bytes, with right and with
// wrong check numbers.
func TestAcceptedImagesAreThoseOfTheirData(t *testing.T) {
	codes := map[int64]int{}
	for _, size := range edgeSizes() {
		image := imageByReference(mixed(size, 256, uint64(size)+160))
		places := append(mixed(12, int64(len(image)), uint64(size)+161), 0, 1, 2, int64(len(image)-4), int64(len(image)-1))
		for i, place := range places {
			other := with(image, int(place), []int64{image[place] ^ 1, image[place] ^ 128, 255 - image[place], 0}[i%4])
			for _, list := range [][]int64{other, checked(other), other[:len(other)-1], checked(other[:len(other)-1]), checked(joined(other, []int64{0}))} {
				codes[checkImage(t, list)]++
			}
		}
	}
	for _, code := range []int64{impl.ErrNone, impl.ErrSyntax, impl.ErrDamage} {
		if codes[code] < 100 {
			t.Errorf("the lists have the codes %v", codes)
		}
	}
}

// wrongBits returns a copy of an image in which the bits at some indices are the other ones.
func wrongBits(image []int64, indices ...int) []int64 {
	other := slices.Clone(image)
	for _, index := range indices {
		other[index/8] ^= 128 >> (index % 8)
	}
	return other
}

// expectDamage fails the test if these blocks of an image with wrong bits are not the damaged ones.
func expectDamage(t *testing.T, image []int64, blocks ...int64) {
	t.Helper()
	expectDamaged(t, image, blocks, impl.ErrNone)
	expectData(t, image, nil, impl.ErrDamage)
}

// bitsOfBlock returns the index of the first bit of the block k of an image, and the number of its bits.
func bitsOfBlock(image []int64, k int) (int, int) {
	return k * 33 * 8, len(slicesByReference(image)[k]) * 8
}

// damageImages returns images of one, two and more blocks whose last part is whole and shorter.
func damageImages() [][]int64 {
	var images [][]int64
	for i, size := range []int{0, 1, 2, 14, 27, 28, 29, 42, 55, 56, 57, 84, 85, 140, 150} {
		images = append(images, imageByReference(datasOf(size)[i%5]))
	}
	return images
}

// Promise 8: each wrong bit of a block makes this block alone a damaged one.
func TestSingleWrongBits(t *testing.T) {
	images := append(damageImages(), imageByReference(mixed(841, 256, 162)), imageByReference(mixed(868, 256, 163)))
	for _, image := range images {
		for index := range len(image) * 8 {
			expectDamage(t, wrongBits(image, index), int64(index/8/33))
		}
	}
}

// Promise 8: all pairs of wrong bits of a block of each length.
func TestPairsOfWrongBits(t *testing.T) {
	for _, size := range []int{0, 1, 2, 14, 27, 28, 29, 57} {
		image := imageByReference(mixed(size, 256, uint64(size)+164))
		k := len(slicesByReference(image)) - 1
		start, count := bitsOfBlock(image, k)
		for a := range count {
			for b := range a {
				expectDamage(t, wrongBits(image, start+a, start+b), int64(k))
			}
		}
	}
	// A block that is not the last one.
	image := imageByReference(mixed(29, 256, 165))
	for a := range 33 * 8 {
		for b := range a {
			expectDamage(t, wrongBits(image, a, b), 0)
		}
	}
}

// Promise 8: all triples of wrong bits of the shortest blocks.
func TestTriplesOfWrongBitsOfShortBlocks(t *testing.T) {
	for _, size := range []int{0, 1, 29} {
		image := imageByReference(mixed(size, 256, uint64(size)+166))
		k := len(slicesByReference(image)) - 1
		start, count := bitsOfBlock(image, k)
		for a := range count {
			for b := range a {
				for c := range b {
					expectDamage(t, wrongBits(image, start+a, start+b, start+c), int64(k))
				}
			}
		}
	}
}

// someIndices returns one to three different bits of the block k of an image.
func someIndices(image []int64, k int, seed uint64) []int {
	start, count := bitsOfBlock(image, k)
	var indices []int
	for _, bit := range mixed(int(seed%3)+1, int64(count), seed) {
		if index := start + int(bit); !slices.Contains(indices, index) {
			indices = append(indices, index)
		}
	}
	return indices
}

// Promise 8: many pairs and triples in each block of all images, those next to one another and at the ends among them.
func TestTriplesOfWrongBits(t *testing.T) {
	images := append(damageImages(), imageByReference(mixed(850, 256, 167)), imageByReference(mixed(868, 256, 168)))
	for i, image := range images {
		for k := range slicesByReference(image) {
			start, count := bitsOfBlock(image, k)
			last := start + count - 1
			for bit := i % 4; bit < count-2; bit += 1 + len(image)/300 {
				expectDamage(t, wrongBits(image, start+bit, start+bit+1, start+bit+2), int64(k))
			}
			for _, indices := range [][]int{{start, last}, {start, start + 1, last}, {start, last - 1, last}, {start + 7, start + 8, last - 23}, {start + 15, last - 24, last - 23}} {
				expectDamage(t, wrongBits(image, indices...), int64(k))
			}
			for seed := range uint64(60) {
				indices := someIndices(image, k, seed+uint64(i*1000+k)*1000)
				expectDamage(t, wrongBits(image, indices...), int64(k))
			}
		}
	}
}

// Promise 8: many triples of a whole block.
func TestManyTriplesOfWrongBits(t *testing.T) {
	for _, size := range []int{28, 29} {
		image := imageByReference(mixed(size, 256, 169))
		for seed := range uint64(60000) {
			expectDamage(t, wrongBits(image, someIndices(image, 0, seed*3+2)...), 0)
		}
	}
}

// Promise 8: of several damaged blocks each one is told. All choices of the blocks of a short image are tried.
func TestSeveralDamagedBlocks(t *testing.T) {
	for _, size := range []int{29, 56, 57, 140, 141, 150} {
		image := imageByReference(mixed(size, 256, uint64(size)+170))
		count := len(slicesByReference(image))
		for chosen := 1; chosen < 1<<count; chosen++ {
			for seed := range uint64(10) {
				checkDamageOf(t, image, uint64(chosen), seed)
			}
		}
	}
	for _, size := range []int{840, 850, 868} {
		image := imageByReference(mixed(size, 256, uint64(size)+171))
		count := len(slicesByReference(image))
		for i, chosen := range append(mixed(300, 1<<count, 172), 1<<count-1, 1<<(count-1)+1, 1) {
			checkDamageOf(t, image, uint64(chosen), uint64(i))
		}
	}
}

// checkDamageOf makes one to three bits wrong in each block of an image whose bit is 1 in a number that is not 0.
func checkDamageOf(t *testing.T, image []int64, chosen uint64, seed uint64) {
	t.Helper()
	var indices []int
	var blocks []int64
	for k := range slicesByReference(image) {
		if chosen>>k&1 == 1 {
			blocks = append(blocks, int64(k))
			indices = append(indices, someIndices(image, k, seed*64+uint64(k))...)
		}
	}
	if len(blocks) > 0 {
		expectDamage(t, wrongBits(image, indices...), blocks...)
	}
}

// A damaged block is told before what else is wrong with an image.
func TestDamageComesFirst(t *testing.T) {
	for _, size := range []int{0, 1, 28, 29, 57, 100} {
		blocks := wholeBlocks(size, 173)
		for k, block := range blocks {
			for index := range 2 {
				other := slices.Clone(blocks)
				other[k] = checkedBlock(k, with(block, index, block[index]^4))
				image := joined(other...)
				expectData(t, image, nil, impl.ErrSyntax)
				for damaged := range blocks {
					expectDamage(t, wrongBits(image, someIndices(image, damaged, uint64(k)+174)...), int64(damaged))
				}
			}
		}
	}
}

func TestBlocksLeaveMemoryAlone(t *testing.T) {
	lists := append(memoryLists(), []int64{}, []int64{5}, []int64{256}, repeated(3, 28), repeated(3, 29), mixed(868, 256, 175), mixed(869, 256, 176))
	for _, size := range []int{0, 1, 28, 29, 57, 868} {
		image := imageByReference(mixed(size, 256, 177))
		lists = append(lists, image, image[:len(image)-1], wrongBits(image, 3, len(image)*8-1), checked(with(image, 1, 77)), with(image, 0, -1))
	}
	for _, list := range lists {
		checkMemory(t, "ImageOf "+shortened(list), func(l [][]int64) []int64 { return first(impl.ImageOf(l[0])) }, list)
		checkMemory(t, "DataOfImage "+shortened(list), func(l [][]int64) []int64 { return first(impl.DataOfImage(l[0])) }, list)
		checkMemory(t, "DamagedBlocks "+shortened(list), func(l [][]int64) []int64 { return first(impl.DamagedBlocks(l[0])) }, list)
		for _, k := range []int64{-1, 0, 1, 2, 30, 31} {
			checkMemory(t, fmt.Sprint("BlockAt ", k, shortened(list)), func(l [][]int64) []int64 { return first(impl.BlockAt(l[0], k)) }, list)
		}
	}
}

// What is written into a result changes no other result: the blocks of an image, or an image and its data.
func TestBlocksKeepNothing(t *testing.T) {
	for _, size := range []int{0, 1, 28, 29, 57, 868} {
		data := mixed(size, 256, uint64(size)+178)
		want := imageByReference(data)
		image, _ := impl.ImageOf(data)
		read, _ := impl.DataOfImage(image)
		for k, slice := range slicesByReference(want) {
			block, _ := impl.BlockAt(image, int64(k))
			again, _ := impl.BlockAt(image, int64(k))
			fill(block[:cap(block)], mark)
			expectList(t, "the block after writing to another one", again, 0, slice, 0)
		}
		expectList(t, "the image after writing to its blocks", image, 0, want, 0)
		fill(image[:cap(image)], mark)
		expectList(t, "the data after writing to their image", read, 0, data, 0)
		fill(read[:cap(read)], mark)
		expectImage(t, data, want, impl.ErrNone)
		expectData(t, want, data, impl.ErrNone)
	}
}
