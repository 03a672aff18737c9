package frame

import (
	"bytes"
	"encoding/binary"
	"hash/crc32"
	"math"
	"math/rand"
	"slices"
	"testing"

	"hstsstore/api"
)

// header is the number of bytes of a frame without its payload, and behind the number of
// those that follow the payload.
const (
	header = 14
	behind = 4
)

// pattern returns n bytes that differ with the seed.
func pattern(n, seed int) []byte {
	b := make([]byte, n)
	for i := range b {
		b[i] = byte(i*7 + i/256*13 + seed)
	}
	return b
}

// definition returns the frame of the chapter's definition, with the length that is given
// in the place of that of the payload.
func definition(length int, epoch, seq uint32, payload []byte) []byte {
	var b []byte
	b = binary.LittleEndian.AppendUint16(b, uint16(length))
	b = binary.LittleEndian.AppendUint32(b, epoch)
	b = binary.LittleEndian.AppendUint32(b, seq)
	b = append(b, payload...)
	return binary.LittleEndian.AppendUint32(b, crc32.ChecksumIEEE(b))
}

// framed returns the frame of payload by the definition.
func framed(epoch, seq uint32, payload []byte) []byte {
	return definition(len(payload), epoch, seq, payload)
}

// numbers are epochs and sequence numbers with each byte being the only one that is not 0,
// among others.
func numbers() []uint32 {
	return []uint32{0, 1, 2, 0xFF, 0x100, 0xFF00, 0x10000, 0xFF0000, 0x1000000, 0xFF000000, 0x01020304, 0x7FFFFFFF, 0x80000000, 0xFFFFFFFE, 0xFFFFFFFF}
}

// checkDecoded decodes the frame at the beginning of b, which is to have this payload.
func checkDecoded(t *testing.T, b []byte, epoch, seq uint32, payload []byte) {
	t.Helper()
	got, n, err := Decode(b, epoch, seq)
	if err != api.OK || n != header+len(payload) || !bytes.Equal(got, payload) {
		t.Errorf("Decode(%x, %#x, %#x) = %x, %d, %d, want the payload %x", b, epoch, seq, got, n, err, payload)
	}
}

// checkError decodes b, which is to give this error and nothing else.
func checkError(t *testing.T, b []byte, epoch, seq uint32, want api.Errno) {
	t.Helper()
	got, n, err := Decode(b, epoch, seq)
	if err != want || n != 0 || len(got) != 0 {
		t.Errorf("Decode(%x, %#x, %#x) = %x, %d, %d, want the error %d", b, epoch, seq, got, n, err, want)
	}
}

// checkScan scans b, which is to give these payloads.
func checkScan(t *testing.T, b []byte, epoch uint32, want [][]byte) {
	t.Helper()
	end := 0
	for _, payload := range want {
		end += header + len(payload)
	}
	got, n := Scan(b, epoch)
	if n != end || !slices.EqualFunc(got, want, bytes.Equal) {
		t.Errorf("Scan(%x, %#x) = %x, %d, want %x, %d", b, epoch, got, n, want, end)
	}
}

// P7.1
func TestSize(t *testing.T) {
	for n := -2000; n <= 70000; n++ {
		want := 0
		if n >= 0 && n <= 1024 {
			want = n + 14
		}
		if got := Size(n); got != want {
			t.Errorf("Size(%d) = %d, want %d", n, got, want)
		}
	}
	for _, n := range []int{math.MinInt, math.MinInt + 1, math.MinInt + 14, -1 << 32, -1<<32 + 5, 1 << 32, 1<<32 + 5, math.MaxInt - 14, math.MaxInt - 13, math.MaxInt} {
		if got := Size(n); got != 0 {
			t.Errorf("Size(%d) = %d, want 0", n, got)
		}
	}
}

// P7.1: a frame of which all bytes are written out.
func TestEncodeOfKnownFrame(t *testing.T) {
	want := []byte{2, 0, 4, 3, 2, 1, 0x0D, 0x0C, 0x0B, 0x0A, 'x', 'y', 232, 14, 29, 46}
	got, err := Encode(0x01020304, 0x0A0B0C0D, []byte("xy"))
	if err != api.OK || !bytes.Equal(got, want) {
		t.Errorf("Encode returns %x, error %d, want %x", got, err, want)
	}
}

// P7.1: payloads of all lengths.
func TestEncodeOfAllLengths(t *testing.T) {
	for n := range 1025 {
		payload := pattern(n, n)
		want := framed(0x11223344, 0x55667788, payload)
		got, err := Encode(0x11223344, 0x55667788, payload)
		if err != api.OK || !bytes.Equal(got, want) || len(got) != Size(n) {
			t.Errorf("Encode of %d bytes returns %x, error %d, want %x", n, got, err, want)
		}
	}
}

// P7.1
func TestEncodeOfAllNumbers(t *testing.T) {
	for _, epoch := range numbers() {
		for _, seq := range numbers() {
			for _, n := range []int{0, 1, 5} {
				want := framed(epoch, seq, pattern(n, 3))
				if got, err := Encode(epoch, seq, pattern(n, 3)); err != api.OK || !bytes.Equal(got, want) {
					t.Errorf("Encode(%#x, %#x, %d bytes) = %x, error %d, want %x", epoch, seq, n, got, err, want)
				}
			}
		}
	}
}

// P7.1: some of these lengths, modulo 2^16, are those of a payload.
func TestEncodeOfTooManyBytes(t *testing.T) {
	for _, n := range []int{1025, 1026, 1038, 2048, 65535, 65536, 65537, 65536 + 1024, 1 << 20} {
		if b, err := Encode(1, 2, make([]byte, n)); err != api.ErrLimit || len(b) != 0 {
			t.Errorf("Encode of %d bytes returns %x, error %d", n, b, err)
		}
	}
}

// Rule 2: a nil payload is an empty one.
func TestEncodeOfNil(t *testing.T) {
	for _, payload := range [][]byte{nil, {}} {
		if b, err := Encode(5, 6, payload); err != api.OK || !bytes.Equal(b, framed(5, 6, nil)) {
			t.Errorf("Encode of no bytes returns %x, error %d", b, err)
		}
	}
}

// The examples of the chapter.
func TestExamples(t *testing.T) {
	if b, err := Encode(0, 0, nil); err != api.OK || len(b) != 14 {
		t.Errorf("the frame of an empty payload is %x, error %d", b, err)
	}
	checkError(t, make([]byte, 14), 0, 0, api.ErrChecksum)
	checkError(t, make([]byte, 500), 0, 0, api.ErrChecksum)
	checkScan(t, make([]byte, 500), 0, nil)
}

// P7.2: payloads of all lengths, alone and followed by other bytes.
func TestDecode(t *testing.T) {
	for n := range 1025 {
		payload := pattern(n, n)
		b := framed(0x11223344, 0x55667788, payload)
		for _, tail := range [][]byte{nil, {0}, {1, 4}, pattern(20, 9), b} {
			checkDecoded(t, slices.Concat(b, tail), 0x11223344, 0x55667788, payload)
		}
	}
}

// P7.2
func TestDecodeOfAllNumbers(t *testing.T) {
	for _, epoch := range numbers() {
		for _, seq := range numbers() {
			b := framed(epoch, seq, []byte("abc"))
			checkDecoded(t, b, epoch, seq, []byte("abc"))
			for _, other := range numbers() {
				if other != epoch {
					checkError(t, b, other, seq, api.ErrOrder)
				}
				if other != seq {
					checkError(t, b, epoch, other, api.ErrOrder)
				}
				if other != epoch && other != seq {
					checkError(t, b, other, other, api.ErrOrder)
				}
			}
		}
	}
}

// P7.2: the epoch and the sequence number are not exchanged.
func TestDecodeOfExchangedNumbers(t *testing.T) {
	checkError(t, framed(3, 4, []byte("abc")), 4, 3, api.ErrOrder)
	for bit := range 32 {
		checkError(t, framed(3, 4, nil), 3^1<<bit, 4, api.ErrOrder)
		checkError(t, framed(3, 4, nil), 3, 4^1<<bit, api.ErrOrder)
	}
}

// P7.2: every beginning of a frame.
func TestDecodeOfTruncatedFrame(t *testing.T) {
	checkError(t, nil, 0, 0, api.ErrTruncated)
	for _, n := range []int{0, 1, 2, 255, 256, 257, 1023, 1024} {
		b := framed(7, 8, pattern(n, 1))
		for k := range b {
			checkError(t, b[:k:k], 7, 8, api.ErrTruncated)
			// The bytes in the spare capacity do not belong to it.
			checkError(t, b[:k], 7, 8, api.ErrTruncated)
		}
		checkDecoded(t, b, 7, 8, pattern(n, 1))
	}
}

// P7.2: every length in a frame of no payload, whose checksum is right, and lengths beyond
// the limit in frames that are complete but for that.
func TestDecodeOfLimits(t *testing.T) {
	for length := range 1 << 16 {
		short := definition(length, 7, 8, nil)
		want := api.ErrTruncated
		if length > 1024 {
			want = api.ErrLimit
		} else if length == 0 {
			want = api.OK
		}
		if _, _, err := Decode(short, 7, 8); err != want {
			t.Errorf("Decode of 14 bytes with the length %d returns the error %d, want %d", length, err, want)
		}
		checkError(t, short[:13], 7, 8, api.ErrTruncated)
	}
	for _, length := range []int{1025, 1026, 1279, 1280, 2048, 32768, 65280, 65535} {
		checkError(t, definition(length, 7, 8, pattern(length, 1)), 7, 8, api.ErrLimit)
		checkError(t, definition(length, 7, 8, pattern(length-1, 1)), 7, 8, api.ErrLimit)
		checkError(t, definition(length, 1, 2, pattern(length, 1)), 7, 8, api.ErrLimit)
	}
}

// P7.2: if several errors apply, the first one counts.
func TestDecodeReturnsTheFirstError(t *testing.T) {
	good := framed(7, 8, []byte("payload"))
	damaged := bytes.Clone(good)
	damaged[12] ^= 1
	checkError(t, damaged, 7, 8, api.ErrChecksum)
	checkError(t, damaged, 6, 8, api.ErrChecksum)
	checkError(t, damaged, 7, 9, api.ErrChecksum)
	checkError(t, damaged[:len(damaged)-1], 6, 9, api.ErrTruncated)
	checkError(t, good[:len(good)-1], 6, 9, api.ErrTruncated)
	checkError(t, bytes.Repeat([]byte{0xFF}, 13), 6, 9, api.ErrTruncated)
	checkError(t, bytes.Repeat([]byte{0xFF}, 14), 6, 9, api.ErrLimit)
}

// P7.2: the bytes of the checksum are in their order, and it covers all bytes before it.
func TestDecodeOfOtherChecksum(t *testing.T) {
	b := framed(7, 8, []byte("payload"))
	at := len(b) - behind
	sum := binary.LittleEndian.Uint32(b[at:])
	swapped := binary.BigEndian.AppendUint32(bytes.Clone(b[:at]), sum)
	checkError(t, swapped, 7, 8, api.ErrChecksum)
	for _, other := range []uint32{0, ^sum, sum + 1, sum ^ 0x80000000, crc32.ChecksumIEEE(b[2:at]), crc32.ChecksumIEEE(b[10:at]), crc32.ChecksumIEEE(b[:at-1])} {
		checkError(t, binary.LittleEndian.AppendUint32(bytes.Clone(b[:at]), other), 7, 8, api.ErrChecksum)
	}
}

// The consequences of the chapter: changes within 32 consecutive bits, but for the length.
func TestDecodeOfChangedBits(t *testing.T) {
	good := framed(7, 8, []byte("payload"))
	for start := 16; start < 8*len(good); start++ {
		for _, change := range []uint32{1, 3, 0x80000001, 0xFFFFFFFF, 0xDEADBEEF} {
			b := bytes.Clone(good)
			for k := range 32 {
				if i := start + k; i < 8*len(b) {
					b[i/8] ^= byte(change>>k&1) << (i % 8)
				}
			}
			checkError(t, b, 7, 8, api.ErrChecksum)
			checkScan(t, slices.Concat(framed(7, 0, nil), b), 7, [][]byte{nil})
		}
	}
}

// payloads returns so many payloads, some of them empty.
func payloads(n int) [][]byte {
	var all [][]byte
	for i := range n {
		all = append(all, pattern(i*i%40, i))
	}
	return all
}

// sequence returns the frames of these payloads, with the sequence numbers from 0 on.
func sequence(epoch uint32, all [][]byte) []byte {
	var b []byte
	for i, payload := range all {
		b = append(b, framed(epoch, uint32(i), payload)...)
	}
	return b
}

// P7.3: frames alone, and followed by what is not the next frame.
func TestScan(t *testing.T) {
	for n := range 20 {
		all := payloads(n)
		next := uint32(n)
		for _, epoch := range numbers() {
			log := sequence(epoch, all)
			for _, tail := range [][]byte{
				nil, {0}, make([]byte, 13), make([]byte, 14), make([]byte, 100), bytes.Repeat([]byte{0xFF}, 100),
				framed(epoch, next+1, []byte("x")), framed(epoch, next-1, []byte("x")), framed(epoch^1, next, []byte("x")),
				framed(epoch, next, []byte("x"))[:14], definition(2, epoch, next, []byte("x")),
				definition(1025, epoch, next, pattern(1025, 1)), slices.Concat([]byte{0}, framed(epoch, next, nil)),
			} {
				checkScan(t, slices.Concat(log, tail), epoch, all)
			}
			checkScan(t, log, epoch+1, nil)
		}
	}
}

// P7.3: what follows the first frame that is not decoded does not count.
func TestScanEndsAtFirstError(t *testing.T) {
	all := payloads(12)
	for i := range all {
		before := sequence(9, all[:i])
		after := sequence(9, all)[len(before):]
		checkScan(t, slices.Concat(before, after), 9, all)
		checkScan(t, slices.Concat(before, after[header+len(all[i]):]), 9, all[:i])
		checkScan(t, slices.Concat(before, framed(8, uint32(i), all[i]), after[header+len(all[i]):]), 9, all[:i])
		checkScan(t, slices.Concat(before, []byte{0}, after), 9, all[:i])
		damaged := slices.Concat(before, after)
		damaged[len(before)+5] ^= 0x10
		checkScan(t, damaged, 9, all[:i])
	}
	checkScan(t, framed(9, 1, []byte("x")), 9, nil)
	checkScan(t, slices.Concat(framed(9, 0, nil), framed(9, 0, nil), framed(9, 1, nil)), 9, [][]byte{nil})
}

// P7.3: each beginning of a sequence contains the frames that end in it.
func TestScanOfTruncatedSequence(t *testing.T) {
	all := payloads(10)
	log := sequence(9, all)
	whole, end := 0, header+len(all[0])
	for k := range len(log) + 1 {
		if k == end {
			whole++
			if whole < len(all) {
				end += header + len(all[whole])
			}
		}
		checkScan(t, log[:k:k], 9, all[:whole])
		checkScan(t, log[:k], 9, all[:whole])
	}
}

// P7.3: sequence numbers of more than two bytes, and the longest payloads.
func TestScanOfManyFrames(t *testing.T) {
	const n = 1<<16 + 300
	got, end := Scan(sequence(3, make([][]byte, n)), 3)
	if len(got) != n || end != n*header {
		t.Errorf("Scan of %d frames returns %d payloads, %d bytes", n, len(got), end)
	}
	checkScan(t, sequence(3, [][]byte{pattern(1024, 1), pattern(1023, 2), pattern(1024, 3)}), 3, [][]byte{pattern(1024, 1), pattern(1023, 2), pattern(1024, 3)})
}

// P7.3
func TestScanOfNothing(t *testing.T) {
	checkScan(t, nil, 0, nil)
	checkScan(t, []byte{}, 0, nil)
	checkScan(t, []byte{}, 0xFFFFFFFF, nil)
}

// P7.1 to P7.3: what Encode returns is found, with any bytes behind it.
func TestEncodedFramesAreDecoded(t *testing.T) {
	for seed := range 200 {
		r := rand.New(rand.NewSource(int64(seed)))
		epoch := r.Uint32()
		var log []byte
		var all [][]byte
		for seq := range uint32(r.Intn(10)) {
			payload := make([]byte, r.Intn(1025))
			r.Read(payload)
			b, err := Encode(epoch, seq, payload)
			if err != api.OK {
				t.Fatalf("Encode returns the error %d", err)
			}
			log = append(log, b...)
			all = append(all, payload)
			tail := make([]byte, r.Intn(50))
			r.Read(tail)
			checkDecoded(t, slices.Concat(b, tail), epoch, seq, payload)
		}
		checkScan(t, log, epoch, all)
	}
}

// Rule 2: arguments are not changed, nor are the bytes beside them.
func TestArgumentsStay(t *testing.T) {
	for _, n := range []int{0, 1, 40, 1024, 1025} {
		whole := pattern(3000, 4)
		if _, err := Encode(1, 2, whole[100:100+n]); (err == api.OK) != (n <= 1024) {
			t.Errorf("Encode of %d bytes returns the error %d", n, err)
		}
		if !bytes.Equal(whole, pattern(3000, 4)) {
			t.Errorf("Encode of %d bytes changes its argument, or what is beside it", n)
		}
	}
	log := slices.Concat(sequence(1, payloads(10)), make([]byte, 100))
	before := bytes.Clone(log)
	Scan(log[:len(log)-50], 1)
	Decode(log[:14], 1, 0)
	if !bytes.Equal(log, before) {
		t.Error("Scan or Decode changes its argument, or what is beside it")
	}
}

// overwrite changes all bytes of b and of its spare capacity.
func overwrite(b []byte) {
	for i := range b[:cap(b)] {
		b[:cap(b)][i] ^= 0xA5
	}
}

// Rule 2: results are new memory, including their spare capacity.
func TestResultsAreCopied(t *testing.T) {
	for _, n := range []int{0, 1, 7, 40, 1024} {
		payload := pattern(n, 4)
		first, _ := Encode(1, 0, payload)
		second, _ := Encode(1, 0, payload)
		overwrite(first)
		if !bytes.Equal(payload, pattern(n, 4)) || !bytes.Equal(second, framed(1, 0, payload)) {
			t.Errorf("the frame of %d bytes shares memory", n)
		}
		got, _, _ := Decode(second, 1, 0)
		overwrite(got)
		if !bytes.Equal(second, framed(1, 0, payload)) {
			t.Errorf("the payload of %d bytes shares memory with the frame", n)
		}
	}
}

// Rule 2: the payloads of one Scan are apart from each other and from its argument.
func TestScannedPayloadsAreCopied(t *testing.T) {
	all := payloads(20)
	log := sequence(1, all)
	again, _ := Scan(log, 1)
	got, _ := Scan(log, 1)
	for i := range got {
		overwrite(got[i])
		for k := i + 1; k < len(got); k++ {
			if !bytes.Equal(got[k], all[k]) {
				t.Errorf("the payloads %d and %d share memory", i, k)
			}
		}
	}
	if !bytes.Equal(log, sequence(1, all)) || !slices.EqualFunc(again, all, bytes.Equal) {
		t.Error("a payload shares memory with the argument, or with another result")
	}
	overwrite(log)
	if !slices.EqualFunc(again, all, bytes.Equal) {
		t.Error("the payloads change with the argument")
	}
}
