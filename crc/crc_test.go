package crc

import (
	"bytes"
	"hash/crc32"
	"math"
	"math/bits"
	"testing"
	"time"
)

// sample returns n bytes in which no short pattern repeats.
func sample(n int, seed uint32) []byte {
	data := make([]byte, n)
	for i := range data {
		seed = seed*1664525 + 1013904223
		data[i] = byte(seed >> 24)
	}
	return data
}

// definition computes the number of the chapter's definition, beginning with c.
func definition(c uint32, data []byte) uint32 {
	for _, b := range data {
		c = manySteps(c^uint32(b), 8)
	}
	return ^c
}

// manySteps performs n steps of the definition, one by one.
func manySteps(c uint32, n int) uint32 {
	for range n {
		low := c % 2
		c /= 2
		if low == 1 {
			c ^= 0xEDB88320
		}
	}
	return c
}

// P2.1
func TestSumOfKnownTexts(t *testing.T) {
	for _, c := range []struct {
		text string
		want uint32
	}{
		{"", 0},
		{"a", 0xE8B7BE43},
		{"abc", 0x352441C2},
		{"123456789", 0xCBF43926},
		{"The quick brown fox jumps over the lazy dog", 0x414FA339},
		{"\x00", 0xD202EF8D},
		{"\x00\x00\x00\x00", 0x2144DF1C},
		{"\xff", 0xFF000000},
		{"\xff\xff\xff\xff", 0xFFFFFFFF},
	} {
		if got := Sum([]byte(c.text)); got != c.want {
			t.Errorf("Sum(%q) = %#x, want %#x", c.text, got, c.want)
		}
	}
}

// P2.1
func TestSumOfNoBytes(t *testing.T) {
	if Sum(nil) != 0 || Sum([]byte{}) != 0 {
		t.Error("the checksum of no bytes is not 0")
	}
}

// P2.1
func TestSumOfEveryByte(t *testing.T) {
	for i := range 256 {
		data := []byte{byte(i)}
		if got, want := Sum(data), crc32.ChecksumIEEE(data); got != want {
			t.Errorf("Sum of the byte %#x is %#x, want %#x", i, got, want)
		}
	}
}

// P2.1
func TestSumOfManyLengths(t *testing.T) {
	for n := range 1200 {
		data := sample(n, uint32(n))
		if got, want := Sum(data), crc32.ChecksumIEEE(data); got != want {
			t.Errorf("Sum of %d bytes is %#x, want %#x", n, got, want)
		}
	}
}

// P2.1
func TestUpdateOfAnyNumber(t *testing.T) {
	for _, sum := range []uint32{0, 1, 2, 0x80000000, 0xEDB88320, 0x12345678, 0xFFFFFFFE, 0xFFFFFFFF} {
		for n := range 20 {
			data := sample(n, sum)
			if got, want := Update(sum, data), definition(^sum, data); got != want {
				t.Errorf("Update(%#x, %x) = %#x, want %#x", sum, data, got, want)
			}
		}
		if got := Update(sum, nil); got != sum {
			t.Errorf("Update(%#x, nil) = %#x", sum, got)
		}
	}
}

// P2.1
func TestUpdateContinuesSum(t *testing.T) {
	data := sample(300, 7)
	for n := range len(data) + 1 {
		if got := Update(Sum(data[:n]), data[n:]); got != Sum(data) {
			t.Errorf("Update after %d bytes is %#x, want %#x", n, got, Sum(data))
		}
	}
	var sum uint32
	for i := range data {
		sum = Update(sum, data[i:i+1])
	}
	if sum != Sum(data) {
		t.Errorf("Update byte by byte is %#x, want %#x", sum, Sum(data))
	}
}

// P2.1, and the rule that arguments are not modified.
func TestArgumentsStay(t *testing.T) {
	whole := sample(40, 3)
	before := bytes.Clone(whole)
	Sum(whole[:20])
	Update(5, whole[:20])
	if !bytes.Equal(whole, before) {
		t.Error("the data or its spare capacity is modified")
	}
}

// P2.2
func TestCombineOfChecksums(t *testing.T) {
	data := sample(700, 11)
	for n := range len(data) + 1 {
		x, y := data[:n], data[n:]
		if got := Combine(Sum(x), Sum(y), len(y)); got != Sum(data) {
			t.Errorf("Combine of %d and %d bytes is %#x, want %#x", len(x), len(y), got, Sum(data))
		}
	}
}

// P2.2
func TestCombineOfAnyNumbers(t *testing.T) {
	numbers := []uint32{0, 1, 2, 0x80000000, 0xEDB88320, 0x0F1E2D3C, 0xFFFFFFFF}
	for _, a := range numbers {
		for _, b := range numbers {
			for n := range 70 {
				if got, want := Combine(a, b, n), b^manySteps(a, 8*n); got != want {
					t.Errorf("Combine(%#x, %#x, %d) = %#x, want %#x", a, b, n, got, want)
				}
			}
		}
	}
}

// P2.2
func TestCombineWithANegativeLength(t *testing.T) {
	for _, n := range []int{0, -1, -2, -8, -1 << 31, math.MinInt + 1, math.MinInt} {
		if got := Combine(0x12345678, 0x0F0F0F0F, n); got != 0x1D3B5977 {
			t.Errorf("Combine with the length %d is %#x", n, got)
		}
	}
}

// P2.2: c depends on a and n linearly, and steps add up, for lengths beyond all data.
func TestCombineOfGreatLengths(t *testing.T) {
	for i := range bits.UintSize - 2 {
		half := 1 << i
		for _, a := range []uint32{1, 0x80000000, 0xDEADBEEF} {
			if got, want := Combine(a, 0, half+half-1), Combine(Combine(a, 0, half), 0, half-1); got != want {
				t.Errorf("Combine(%#x, 0, 2^%d - 1) = %#x, want %#x", a, i+1, got, want)
			}
		}
	}
	// The order of the polynomial is 2^32 - 1: so many bytes of zeros change nothing.
	period := uint64(math.MaxUint32)
	for _, a := range []uint32{1, 0xDEADBEEF, 0xFFFFFFFF} {
		for _, n := range []int{int(period), int(period << 30)} {
			if got := Combine(a, 0, n); got != a {
				t.Errorf("Combine(%#x, 0, %d) = %#x", a, n, got)
			}
		}
		// 2^63 - 1 is 2^31 - 1 modulo 2^32 - 1.
		if got, want := Combine(a, 0, math.MaxInt), Combine(a, 0, math.MaxInt32); got != want {
			t.Errorf("Combine(%#x, 0, 2^63 - 1) = %#x, want %#x", a, got, want)
		}
	}
}

// P2.2: steps one by one would take years.
func TestCombineTakesFewOperations(t *testing.T) {
	done := make(chan uint32)
	go func() { done <- Combine(1, 2, math.MaxInt) }()
	select {
	case <-done:
	case <-time.After(20 * time.Second):
		t.Fatal("Combine of a great length does not end")
	}
}

// The consequences of the chapter.
func TestChangesWithin32BitsAreNoticed(t *testing.T) {
	data := sample(24, 5)
	sum := Sum(data)
	for start := range 8*len(data) - 31 {
		for _, pattern := range []uint32{1, 3, 0x80000001, 0x80200041, 0xEDB88320 | 1, 0xFFFFFFFF} {
			changed := bytes.Clone(data)
			for i := range 32 {
				bit := start + i
				changed[bit/8] ^= byte(pattern>>i&1) << (bit % 8)
			}
			if Sum(changed) == sum {
				t.Errorf("the change %#x from the bit %d is not noticed", pattern, start)
			}
		}
	}
}

// The consequences of the chapter.
func TestSumOfThreeSequences(t *testing.T) {
	for n := range 50 {
		x, y, z := sample(n, 1), sample(n, 2), sample(n, 3)
		all := make([]byte, n)
		for i := range all {
			all[i] = x[i] ^ y[i] ^ z[i]
		}
		if got, want := Sum(all), Sum(x)^Sum(y)^Sum(z); got != want {
			t.Errorf("the checksum of the XOR of %d bytes is %#x, want %#x", n, got, want)
		}
	}
}
