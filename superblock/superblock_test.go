package superblock

import (
	"bytes"
	"encoding/binary"
	"hash/crc32"
	"math"
	"math/rand"
	"slices"
	"testing"

	"hstsstore/api"
)

const (
	size      = 64      // bytes of an encoding
	sealed    = 60      // those of them that the checksum covers
	maxLength = 1 << 18 // bytes of the largest disk
)

// seal returns the first 60 bytes of b followed by their checksum, in new memory.
func seal(b []byte) []byte {
	return binary.LittleEndian.AppendUint32(bytes.Clone(b[:sealed]), crc32.ChecksumIEEE(b[:sealed]))
}

// definition returns the encoding of the chapter's definition, also for superblocks that are
// not valid, of which the numbers are cut off.
func definition(s api.Super) []byte {
	b := []byte{'H', 'S', 'T', 'S', 1, byte(s.Active)}
	b = binary.LittleEndian.AppendUint64(b, s.Generation)
	b = binary.LittleEndian.AppendUint32(b, s.Epoch)
	b = binary.LittleEndian.AppendUint32(b, uint32(s.Length))
	b = binary.LittleEndian.AppendUint32(b, s.Sum)
	return seal(append(b, make([]byte, 34)...))
}

// sample is a superblock whose bytes all differ.
func sample() api.Super {
	return api.Super{Generation: 0xF1E2D3C4B5A69788, Active: 1, Epoch: 0x5A6B7C8D, Length: 0x00031729, Sum: 0x9EAFB0C2}
}

// numbers are numbers with each byte being the only one that is not 0, each bit being the
// only one that is set, and their neighbours.
func numbers() []uint64 {
	all := []uint64{0x0123456789ABCDEF, 0xFEDCBA9876543210}
	for i := range 64 {
		all = append(all, 1<<i, 1<<i-1, ^(1 << i), 0xFF<<i)
	}
	return append(all, math.MaxUint64)
}

// lengths are lengths that are valid.
func lengths() []int {
	all := []int{0, 1, 2, 255, 256, 257, 65535, 65536, 65537, 0x20304, maxLength - 1, maxLength}
	for i := range 18 {
		all = append(all, 1<<i, maxLength-1-1<<i)
	}
	return all
}

// validOnes are superblocks that are valid.
func validOnes() []api.Super {
	all := []api.Super{{}, {Active: 1}, sample()}
	for _, active := range []int{0, 1} {
		for _, n := range numbers() {
			all = append(all,
				api.Super{Active: active, Generation: n},
				api.Super{Active: active, Epoch: uint32(n)},
				api.Super{Active: active, Sum: uint32(n)},
				api.Super{Active: active, Generation: ^n, Epoch: uint32(n), Length: int(n % (maxLength + 1)), Sum: uint32(n >> 32)})
		}
		for _, n := range lengths() {
			all = append(all, api.Super{Active: active, Length: n}, api.Super{Active: active, Generation: math.MaxUint64, Epoch: math.MaxUint32, Length: n, Sum: math.MaxUint32})
		}
	}
	return all
}

// invalidOnes are superblocks that are not valid; the numbers of some of them are those of
// valid ones if they are cut off.
func invalidOnes() []api.Super {
	var all []api.Super
	for _, active := range []int{2, 3, 127, 128, 254, 255, 256, 257, -1, -2, -255, -256, 1 << 16, 1 << 32, 1<<32 + 1, math.MaxInt, math.MinInt, math.MinInt + 1} {
		all = append(all, api.Super{Active: active}, api.Super{Active: active, Generation: 5, Epoch: 6, Length: maxLength, Sum: 7})
	}
	for _, length := range []int{-1, -2, -maxLength, maxLength + 1, maxLength + 2, 2 * maxLength, 1<<31 - 1, 1 << 31, 1<<32 - 1, 1 << 32, 1<<32 + 1, -1 << 32, math.MaxInt, math.MinInt, math.MinInt + 1} {
		all = append(all, api.Super{Length: length}, api.Super{Active: 1, Generation: 5, Epoch: 6, Length: length, Sum: 7})
	}
	return append(all, api.Super{Active: 2, Length: -1}, api.Super{Active: -1, Length: maxLength + 1})
}

// checkDecoded decodes b, which is to give s.
func checkDecoded(t *testing.T, b []byte, s api.Super) {
	t.Helper()
	if got, err := Decode(b); err != api.OK || got != s {
		t.Errorf("Decode(%x) = %v, error %d, want %v", b, got, err, s)
	}
}

// checkError decodes b, which is to give this error and nothing else.
func checkError(t *testing.T, b []byte, want api.Errno) {
	t.Helper()
	if got, err := Decode(b); err != want || got != (api.Super{}) {
		t.Errorf("Decode(%x) = %v, error %d, want the error %d", b, got, err, want)
	}
}

// checkChosen chooses among the contents of two slots, which is to give this slot and s.
func checkChosen(t *testing.T, a, b []byte, slot int, s api.Super) {
	t.Helper()
	gotSlot, got, err := Choose(a, b)
	if err != api.OK || gotSlot != slot || got != s {
		t.Errorf("Choose(%x, %x) = %d, %v, error %d, want %d, %v", a, b, gotSlot, got, err, slot, s)
	}
}

// checkCorrupt chooses among the contents of two slots that cannot be decoded.
func checkCorrupt(t *testing.T, a, b []byte) {
	t.Helper()
	if slot, s, err := Choose(a, b); err != api.ErrCorrupt || slot != 0 || s != (api.Super{}) {
		t.Errorf("Choose(%x, %x) = %d, %v, error %d, want ErrCorrupt", a, b, slot, s, err)
	}
}

// P9.1
func TestValid(t *testing.T) {
	for _, s := range validOnes() {
		if !Valid(s) {
			t.Errorf("Valid(%v) = false", s)
		}
	}
	for _, s := range invalidOnes() {
		if Valid(s) {
			t.Errorf("Valid(%v) = true", s)
		}
	}
	for n := -3; n <= maxLength+3; n++ {
		if got, want := Valid(api.Super{Length: n}), 0 <= n && n <= maxLength; got != want {
			t.Errorf("Valid with the length %d = %v", n, got)
		}
	}
	for n := -300; n <= 300; n++ {
		if got, want := Valid(api.Super{Active: n}), n == 0 || n == 1; got != want {
			t.Errorf("Valid with the active region %d = %v", n, got)
		}
	}
}

// P9.1: a superblock of which all bytes are written out.
func TestEncodeOfKnownSuperblock(t *testing.T) {
	want := slices.Concat(
		[]byte{'H', 'S', 'T', 'S', 1, 1},
		[]byte{8, 7, 6, 5, 4, 3, 2, 1},
		[]byte{0x14, 0x13, 0x12, 0x11},
		[]byte{44, 1, 0, 0},
		[]byte{0x24, 0x23, 0x22, 0x21},
		make([]byte, 34),
		[]byte{211, 51, 124, 148})
	s := api.Super{Generation: 0x0102030405060708, Active: 1, Epoch: 0x11121314, Length: 300, Sum: 0x21222324}
	if got, err := Encode(s); err != api.OK || !bytes.Equal(got, want) {
		t.Errorf("Encode returns %x, error %d, want %x", got, err, want)
	}
	checkDecoded(t, want, s)
}

// P9.1 and P9.2: what is encoded is decoded.
func TestEncodeAndDecode(t *testing.T) {
	for _, s := range validOnes() {
		want := definition(s)
		if got, err := Encode(s); err != api.OK || !bytes.Equal(got, want) || len(want) != size {
			t.Errorf("Encode(%v) = %x, error %d, want %x", s, got, err, want)
		}
		checkDecoded(t, want, s)
	}
}

// P9.1
func TestEncodeOfInvalidSuperblock(t *testing.T) {
	for _, s := range invalidOnes() {
		if b, err := Encode(s); err != api.ErrInvalid || len(b) != 0 {
			t.Errorf("Encode(%v) = %x, error %d", s, b, err)
		}
	}
}

// P9.2: all lengths but the right one, with the encoding at the beginning or at the end.
func TestDecodeOfOtherLengths(t *testing.T) {
	good := definition(sample())
	for n := range 3 * size {
		b := append(bytes.Clone(good), make([]byte, 2*size)...)[:n]
		if n == size {
			checkDecoded(t, b, sample())
			continue
		}
		checkError(t, b, api.ErrTruncated)
		checkError(t, slices.Clip(b), api.ErrTruncated)
		checkError(t, make([]byte, n), api.ErrTruncated)
	}
	checkError(t, nil, api.ErrTruncated)
	checkError(t, good[1:], api.ErrTruncated)
	checkError(t, append([]byte{0}, good...), api.ErrTruncated)
	checkError(t, slices.Concat(good, good), api.ErrTruncated)
	checkError(t, make([]byte, 1<<16+size), api.ErrTruncated)
}

// P9.2: each byte with each other value, with the old checksum.
func TestDecodeOfOtherBytes(t *testing.T) {
	good := definition(sample())
	for i := range good {
		for change := 1; change < 256; change++ {
			b := bytes.Clone(good)
			b[i] ^= byte(change)
			checkError(t, b, api.ErrChecksum)
		}
	}
}

// P9.2: the bytes of the checksum are in their order, and it covers all bytes before it.
func TestDecodeOfOtherChecksum(t *testing.T) {
	good := definition(sample())
	sum := binary.LittleEndian.Uint32(good[sealed:])
	for _, other := range []uint32{0, ^sum, sum + 1, sum ^ 0x80000000, sample().Sum, crc32.ChecksumIEEE(good[4:sealed]), crc32.ChecksumIEEE(good[:26]), crc32.ChecksumIEEE(good[:sealed-1]), crc32.ChecksumIEEE(append(good[:sealed:sealed], 0, 0, 0, 0))} {
		checkError(t, binary.LittleEndian.AppendUint32(bytes.Clone(good[:sealed]), other), api.ErrChecksum)
	}
	checkError(t, binary.BigEndian.AppendUint32(bytes.Clone(good[:sealed]), sum), api.ErrChecksum)
}

// expected returns the superblock that b, whose checksum matches, encodes, and ErrForm if
// there is none.
func expected(b []byte) (api.Super, api.Errno) {
	s := api.Super{
		Generation: binary.LittleEndian.Uint64(b[6:]),
		Active:     int(b[5]),
		Epoch:      binary.LittleEndian.Uint32(b[14:]),
		Length:     int(binary.LittleEndian.Uint32(b[18:])),
		Sum:        binary.LittleEndian.Uint32(b[22:]),
	}
	if string(b[:5]) != "HSTS\x01" || s.Active > 1 || s.Length > maxLength {
		return api.Super{}, api.ErrForm
	}
	for _, c := range b[26:sealed] {
		if c != 0 {
			return api.Super{}, api.ErrForm
		}
	}
	return s, api.OK
}

// P9.2: each byte with each other value, with the right checksum.
func TestDecodeOfOtherForms(t *testing.T) {
	for _, s := range []api.Super{{}, sample(), {Active: 1, Length: maxLength}, {Generation: math.MaxUint64, Epoch: math.MaxUint32, Length: maxLength - 1, Sum: math.MaxUint32}} {
		for i := range sealed {
			for value := range 256 {
				b := definition(s)
				b[i] = byte(value)
				b = seal(b)
				want, err := expected(b)
				if err == api.OK {
					checkDecoded(t, b, want)
				} else {
					checkError(t, b, err)
				}
			}
		}
	}
}

// P9.2: encodings with the right checksum of what is not valid.
func TestDecodeOfInvalidSuperblock(t *testing.T) {
	for _, active := range []int{2, 3, 127, 128, 255} {
		checkError(t, definition(api.Super{Active: active}), api.ErrForm)
	}
	for _, length := range []int{maxLength + 1, maxLength + 2, maxLength + 256, 2 * maxLength, 1<<31 - 1, 1 << 31, 1<<31 + 1, 1<<32 - maxLength, 1<<32 - 1} {
		checkError(t, definition(api.Super{Length: length}), api.ErrForm)
		checkError(t, definition(api.Super{Active: 1, Generation: 5, Epoch: 6, Length: length, Sum: 7}), api.ErrForm)
	}
}

// P9.2: other letters and versions, in otherwise complete encodings.
func TestDecodeOfOtherLetters(t *testing.T) {
	for _, start := range []string{"hsts\x01", "HSTS\x00", "HSTS\x02", "HSTS1", "STSH\x01", "HSTT\x01", "\x00\x00\x00\x00\x00", "\x01HSTS"} {
		b := definition(sample())
		copy(b, start)
		checkError(t, seal(b), api.ErrForm)
	}
}

// P9.2: if several errors apply, the first one counts.
func TestDecodeReturnsTheFirstError(t *testing.T) {
	bad := definition(api.Super{Active: 2, Length: maxLength + 1})
	checkError(t, bad, api.ErrForm)
	bad[40] = 1
	checkError(t, bad, api.ErrChecksum)
	checkError(t, seal(bad), api.ErrForm)
	checkError(t, bad[:size-1], api.ErrTruncated)
	checkError(t, append(bad, 0), api.ErrTruncated)
	checkError(t, append(seal(bad), 0), api.ErrTruncated)
}

// The example of the chapter, and other sectors that were never superblocks.
func TestExample(t *testing.T) {
	checkError(t, make([]byte, size), api.ErrChecksum)
	checkError(t, bytes.Repeat([]byte{0xFF}, size), api.ErrChecksum)
	checkError(t, seal(make([]byte, size)), api.ErrForm)
}

// undecodable are contents of slots that are not superblocks.
func undecodable() [][]byte {
	good := definition(sample())
	damaged := bytes.Clone(good)
	damaged[30] = 1
	return [][]byte{
		nil, {}, make([]byte, size), bytes.Repeat([]byte{0xFF}, size), good[:size-1], append(bytes.Clone(good), 0),
		damaged, seal(damaged), definition(api.Super{Generation: math.MaxUint64, Active: 2}),
		definition(api.Super{Generation: math.MaxUint64, Length: maxLength + 1}),
	}
}

// generations are numbers of generations, with their neighbours.
func generations() []uint64 {
	all := append(numbers(), 0, 2, 3, 255, 256, 257, math.MaxUint64-1)
	slices.Sort(all)
	return slices.Compact(all)
}

// P9.3: two superblocks; the fields beside the generation do not count, not even if it is
// the same.
func TestChoose(t *testing.T) {
	for _, g := range generations() {
		for _, h := range generations() {
			for active := range 2 {
				first := api.Super{Generation: g, Active: active, Epoch: 9, Length: 1000, Sum: 11}
				second := api.Super{Generation: h, Active: 1 - active, Epoch: 10, Length: 1001, Sum: 12}
				if active == 1 {
					first.Epoch, first.Length, first.Sum = 11, 1002, 13
				}
				if h > g {
					checkChosen(t, definition(first), definition(second), 1, second)
				} else {
					checkChosen(t, definition(first), definition(second), 0, first)
				}
			}
		}
	}
}

// P9.3: the only one that can be decoded, also if its generation is 0.
func TestChooseTheOnlyOne(t *testing.T) {
	for _, none := range undecodable() {
		for _, s := range []api.Super{{}, {Active: 1}, {Generation: 1}, sample(), {Generation: math.MaxUint64}} {
			checkChosen(t, definition(s), none, 0, s)
			checkChosen(t, none, definition(s), 1, s)
		}
	}
}

// P9.3
func TestChooseNone(t *testing.T) {
	for _, a := range undecodable() {
		for _, b := range undecodable() {
			checkCorrupt(t, a, b)
		}
	}
}

// The consequence of the chapter: a slot is overwritten, of which the first bytes or other
// ones are stored.
func TestChooseAfterPartialOverwrite(t *testing.T) {
	current := api.Super{Generation: 6, Active: 0, Epoch: 7, Length: 100, Sum: 0x01020304}
	for _, before := range [][]byte{make([]byte, size), definition(api.Super{Generation: 5, Active: 1, Epoch: 6, Length: 77, Sum: 0x0A0B0C0D})} {
		next := api.Super{Generation: 7, Active: 1, Epoch: 8, Length: 200, Sum: 0x11121314}
		for n := range size + 1 {
			torn := append(definition(next)[:n:n], before[n:]...)
			if n == size {
				checkChosen(t, definition(current), torn, 1, next)
				checkChosen(t, torn, definition(current), 0, next)
				continue
			}
			checkChosen(t, definition(current), torn, 0, current)
			checkChosen(t, torn, definition(current), 1, current)
		}
	}
}

// P9.1 to P9.3: superblocks of random numbers.
func TestRandomSuperblocks(t *testing.T) {
	r := rand.New(rand.NewSource(1))
	random := func() api.Super {
		return api.Super{Generation: r.Uint64() >> r.Intn(64), Active: r.Intn(2), Epoch: r.Uint32(), Length: r.Intn(maxLength + 1), Sum: r.Uint32()}
	}
	for range 5000 {
		first, second := random(), random()
		a, errA := Encode(first)
		b, errB := Encode(second)
		if errA != api.OK || errB != api.OK || !bytes.Equal(a, definition(first)) {
			t.Errorf("Encode of %v and %v returns the errors %d and %d", first, second, errA, errB)
		}
		checkDecoded(t, a, first)
		if second.Generation > first.Generation {
			checkChosen(t, a, b, 1, second)
		} else {
			checkChosen(t, a, b, 0, first)
		}
	}
}

// Rule 2: arguments are not changed, nor are the bytes beside them.
func TestArgumentsStay(t *testing.T) {
	whole := slices.Concat(bytes.Repeat([]byte{7}, size), definition(sample()), bytes.Repeat([]byte{7}, size))
	before := bytes.Clone(whole)
	slot := whole[size : 2*size]
	checkDecoded(t, slot, sample())
	checkChosen(t, slot, slot, 0, sample())
	checkError(t, whole[:size-1], api.ErrTruncated)
	checkError(t, whole[:size], api.ErrChecksum)
	checkCorrupt(t, whole[:size], whole[2*size:])
	if !bytes.Equal(whole, before) {
		t.Error("Decode or Choose changes its argument, or what is beside it")
	}
}

// Rule 2: results are new memory, including their spare capacity.
func TestResultsAreNew(t *testing.T) {
	first, _ := Encode(sample())
	second, _ := Encode(sample())
	clear(first[:cap(first)])
	third, _ := Encode(sample())
	if !bytes.Equal(second, definition(sample())) || !bytes.Equal(third, definition(sample())) {
		t.Error("two results of Encode share memory")
	}
}
