package wire

import (
	"bytes"
	"encoding/binary"
	"math"
	"math/big"
	"strings"
	"testing"

	"hstsstore/api"
)

// numbers returns numbers around all borders of the encoding.
func numbers() []uint64 {
	all := []uint64{300, 0xDEADBEEF, 0x0123456789ABCDEF, math.MaxUint64}
	for i := range 64 {
		power := uint64(1) << i
		all = append(all, power-1, power, power+1)
	}
	return all
}

// texts returns strings around the borders of the encoding of their length and the limit.
func texts() []string {
	all := []string{"a", "ab", "\x00", "\xff\x80", "a.example.com", "\u00e4\u212a", "\x02ab"}
	for _, n := range []int{0, 1, 126, 127, 128, 129, 255, 256, api.MaxText - 1, api.MaxText} {
		all = append(all, strings.Repeat("x\x80", n)[:n])
	}
	return all
}

// decoded computes the result of Uint from the definition, with numbers of any length.
func decoded(b []byte) (uint64, int, api.Errno) {
	last := 0
	for last < len(b) && b[last] >= 0x80 {
		last++
	}
	if last == len(b) && len(b) < 10 {
		return 0, 0, api.ErrTruncated
	}
	if last >= 10 {
		return 0, 0, api.ErrOverflow
	}
	v := new(big.Int)
	for i := last; i >= 0; i-- {
		v.Mul(v, big.NewInt(128))
		v.Add(v, big.NewInt(int64(b[i]%128)))
	}
	if v.BitLen() > 64 {
		return 0, 0, api.ErrOverflow
	}
	if last > 0 && b[last] == 0 {
		return 0, 0, api.ErrForm
	}
	return v.Uint64(), last + 1, api.OK
}

// checkUint compares Uint with the definition, and what it decodes with its encoding.
func checkUint(t *testing.T, b []byte) {
	t.Helper()
	v, n, err := Uint(b)
	if wantV, wantN, wantErr := decoded(b); v != wantV || n != wantN || err != wantErr {
		t.Errorf("Uint(%x) = %d, %d, %d, want %d, %d, %d", b, v, n, err, wantV, wantN, wantErr)
		return
	}
	if err == api.OK && !bytes.Equal(AppendUint(nil, v), b[:n]) {
		t.Errorf("Uint decodes %x as %d, whose encoding is %x", b[:n], v, AppendUint(nil, v))
	}
}

// P3.1
func TestEncodings(t *testing.T) {
	for _, c := range []struct {
		name      string
		got, want []byte
	}{
		{"0", AppendUint(nil, 0), []byte{0}},
		{"1", AppendUint(nil, 1), []byte{1}},
		{"127", AppendUint(nil, 127), []byte{0x7F}},
		{"128", AppendUint(nil, 128), []byte{0x80, 0x01}},
		{"300", AppendUint(nil, 300), []byte{0xAC, 0x02}},
		{"16383", AppendUint(nil, 16383), []byte{0xFF, 0x7F}},
		{"16384", AppendUint(nil, 16384), []byte{0x80, 0x80, 0x01}},
		{"2^63", AppendUint(nil, 1<<63), []byte{0x80, 0x80, 0x80, 0x80, 0x80, 0x80, 0x80, 0x80, 0x80, 0x01}},
		{"2^64 - 1", AppendUint(nil, math.MaxUint64), []byte{0xFF, 0xFF, 0xFF, 0xFF, 0xFF, 0xFF, 0xFF, 0xFF, 0xFF, 0x01}},
		{"the empty string", AppendText(nil, ""), []byte{0}},
		{"the string ab", AppendText(nil, "ab"), []byte{2, 'a', 'b'}},
		{"a string that is not UTF-8", AppendText(nil, "\xff\x00\x80"), []byte{3, 0xFF, 0x00, 0x80}},
		{"the fixed number 0", AppendFixed(nil, 0), []byte{0, 0, 0, 0}},
		{"the fixed number 1", AppendFixed(nil, 1), []byte{1, 0, 0, 0}},
		{"the fixed number 0x89ABCDEF", AppendFixed(nil, 0x89ABCDEF), []byte{0xEF, 0xCD, 0xAB, 0x89}},
		{"the fixed number 2^32 - 1", AppendFixed(nil, math.MaxUint32), []byte{0xFF, 0xFF, 0xFF, 0xFF}},
	} {
		if !bytes.Equal(c.got, c.want) {
			t.Errorf("the encoding of %s is %x, want %x", c.name, c.got, c.want)
		}
	}
}

// P3.1
func TestAppendUintOfManyNumbers(t *testing.T) {
	for _, v := range numbers() {
		if got, want := AppendUint(nil, v), binary.AppendUvarint(nil, v); !bytes.Equal(got, want) {
			t.Errorf("AppendUint(nil, %d) = %x, want %x", v, got, want)
		}
	}
}

// P3.1
func TestAppendTextIsLengthAndBytes(t *testing.T) {
	// There is no limit for the encoder.
	for _, s := range append(texts(), strings.Repeat("y", api.MaxText+1), strings.Repeat("z", 1<<17)) {
		want := append(binary.AppendUvarint(nil, uint64(len(s))), s...)
		if got := AppendText(nil, s); !bytes.Equal(got, want) {
			t.Errorf("the encoding of a string of %d bytes is wrong", len(s))
		}
	}
}

// P3.1: what is appended follows b, and neither b nor its spare capacity is touched or kept.
func TestAppendedToNewMemory(t *testing.T) {
	encoders := []struct {
		name   string
		encode func(b []byte) []byte
	}{
		{"AppendUint", func(b []byte) []byte { return AppendUint(b, math.MaxUint64) }},
		{"AppendUint of 0", func(b []byte) []byte { return AppendUint(b, 0) }},
		{"AppendText", func(b []byte) []byte { return AppendText(b, "some text") }},
		{"AppendText of nothing", func(b []byte) []byte { return AppendText(b, "") }},
		{"AppendFixed", func(b []byte) []byte { return AppendFixed(b, math.MaxUint32) }},
	}
	for _, c := range encoders {
		encoding := c.encode(nil)
		for n := range 40 {
			whole := bytes.Repeat([]byte{0x55}, 100)
			b := whole[:n]
			first, second := c.encode(b), c.encode(b)
			want := append(bytes.Repeat([]byte{0x55}, n), encoding...)
			if !bytes.Equal(first, want) || !bytes.Equal(second, want) {
				t.Errorf("%s behind %d bytes: %x, then %x, want %x", c.name, n, first, second, want)
			}
			clear(first[:cap(first)])
			if !bytes.Equal(second, want) || !bytes.Equal(whole, bytes.Repeat([]byte{0x55}, 100)) {
				t.Errorf("%s behind %d bytes shares memory", c.name, n)
			}
		}
		if !bytes.Equal(c.encode([]byte{}), encoding) {
			t.Errorf("%s treats an empty slice unlike a nil one", c.name)
		}
	}
}

// P3.1 and P3.2
func TestUintOfEncodings(t *testing.T) {
	for _, v := range numbers() {
		encoding := AppendUint(nil, v)
		for _, tail := range []string{"", "\x00", "\x80", "\xff\xff\xff\xff\xff\xff\xff\xff\xff\xff\xff"} {
			got, n, err := Uint(append(bytes.Clone(encoding), tail...))
			if got != v || n != len(encoding) || err != api.OK {
				t.Errorf("Uint of the encoding of %d before %q is %d, %d, %d", v, tail, got, n, err)
			}
		}
		for k := range encoding {
			if got, n, err := Uint(encoding[:k]); got != 0 || n != 0 || err != api.ErrTruncated {
				t.Errorf("Uint of %d bytes of the encoding of %d is %d, %d, %d", k, v, got, n, err)
			}
		}
	}
}

// P3.2
func TestUintErrors(t *testing.T) {
	for _, c := range []struct {
		name string
		b    string
		want api.Errno
	}{
		{"no bytes", "", api.ErrTruncated},
		{"one byte of two", "\x80", api.ErrTruncated},
		{"nine bytes of ten", strings.Repeat("\x80", 9), api.ErrTruncated},
		{"nine bytes of ten, all bits set", strings.Repeat("\xff", 9), api.ErrTruncated},
		{"ten bytes and no last one", strings.Repeat("\x80", 10), api.ErrOverflow},
		{"eleven bytes", strings.Repeat("\x80", 10) + "\x01", api.ErrOverflow},
		{"eleven bytes, the last one 0", strings.Repeat("\x80", 10) + "\x00", api.ErrOverflow},
		{"the tenth byte in the range, but not the last one", strings.Repeat("\xff", 9) + "\x81", api.ErrOverflow},
		{"2^64", strings.Repeat("\x80", 9) + "\x02", api.ErrOverflow},
		{"2^64 + 2^63", strings.Repeat("\x80", 9) + "\x03", api.ErrOverflow},
		{"the greatest number of ten bytes", strings.Repeat("\xff", 9) + "\x7f", api.ErrOverflow},
		{"0 in two bytes", "\x80\x00", api.ErrForm},
		{"1 in two bytes", "\x81\x00", api.ErrForm},
		{"1 in three bytes", "\x81\x80\x00", api.ErrForm},
		{"0 in ten bytes", strings.Repeat("\x80", 9) + "\x00", api.ErrForm},
		{"2^63 - 1 in ten bytes", strings.Repeat("\xff", 9) + "\x00", api.ErrForm},
	} {
		if v, n, err := Uint([]byte(c.b)); v != 0 || n != 0 || err != c.want {
			t.Errorf("Uint of %s (%x) is %d, %d, %d, want the error %d", c.name, c.b, v, n, err, c.want)
		}
	}
}

// P3.2
func TestUintOfAllShortInputs(t *testing.T) {
	checkUint(t, nil)
	for i := range 256 {
		checkUint(t, []byte{byte(i)})
		for j := range 256 {
			checkUint(t, []byte{byte(i), byte(j)})
			checkUint(t, []byte{byte(i), byte(j), 0})
			checkUint(t, []byte{byte(i), byte(j), 1})
		}
	}
}

// P3.2
func TestUintOfLongInputs(t *testing.T) {
	for _, continued := range []string{"\x80", "\xff", "\x81", "\x80\xff", "\xc5\xaa\x93"} {
		for n := range 14 {
			head := strings.Repeat(continued, n)[:n]
			checkUint(t, []byte(head))
			for last := range 256 {
				b := append([]byte(head), byte(last))
				checkUint(t, b)
				checkUint(t, append(b, 0))
				checkUint(t, append(b, 0x80, 0x01))
			}
		}
	}
}

// P3.3
func TestTextOfEncodings(t *testing.T) {
	for _, s := range texts() {
		encoding := AppendText(nil, s)
		for _, tail := range []string{"", "\x00", "\x80", "\xff more"} {
			got, n, err := Text(append(bytes.Clone(encoding), tail...))
			if got != s || n != len(encoding) || err != api.OK {
				t.Errorf("Text of the encoding of %d bytes before %q is %d bytes, %d, %d", len(s), tail, len(got), n, err)
			}
		}
		for k := range encoding {
			if got, n, err := Text(encoding[:k]); got != "" || n != 0 || err != api.ErrTruncated {
				t.Errorf("Text of %d bytes of the encoding of %d bytes is %q, %d, %d", k, len(s), got, n, err)
			}
		}
	}
}

// P3.3
func TestTextErrors(t *testing.T) {
	long := strings.Repeat("x", api.MaxText+1)
	for _, c := range []struct {
		name string
		b    string
		want api.Errno
	}{
		{"no bytes", "", api.ErrTruncated},
		{"a length that ends too early", "\x80", api.ErrTruncated},
		{"a length of eleven bytes", strings.Repeat("\xff", 10) + "\x01ab", api.ErrOverflow},
		{"a length of 2^64", strings.Repeat("\x80", 9) + "\x02ab", api.ErrOverflow},
		{"a length with a last byte of 0", "\x82\x00ab", api.ErrForm},
		{"an empty string with a length in two bytes", "\x80\x00", api.ErrForm},
		{"a length above the limit, in a form that is not canonical", "\x81\xa0\x00" + long, api.ErrForm},
		{"one byte more than the limit", "\x81\x20" + long, api.ErrLimit},
		{"one byte more than the limit, without the bytes", "\x81\x20", api.ErrLimit},
		{"the limit, without the bytes", "\x80\x20", api.ErrTruncated},
		{"the limit, with one byte too few", "\x80\x20" + long[2:], api.ErrTruncated},
		{"a length of 2^31", "\x80\x80\x80\x80\x08ab", api.ErrLimit},
		{"a length of 2^32 + 2", "\x82\x80\x80\x80\x10ab", api.ErrLimit},
		{"a length of 2^63", strings.Repeat("\x80", 9) + "\x01ab", api.ErrLimit},
		{"a length of 2^64 - 1", strings.Repeat("\xff", 9) + "\x01ab", api.ErrLimit},
		{"one byte of two", "\x02a", api.ErrTruncated},
		{"no byte of one", "\x01", api.ErrTruncated},
	} {
		if s, n, err := Text([]byte(c.b)); s != "" || n != 0 || err != c.want {
			t.Errorf("Text of %s is %q, %d, %d, want the error %d", c.name, s, n, err, c.want)
		}
	}
}

// P3.3: whatever is decoded has exactly the bytes of its encoding.
func TestTextOfAllShortInputs(t *testing.T) {
	for i := range 256 {
		for j := range 256 {
			b := []byte{byte(i), byte(j), 'x', 0x80}
			s, n, err := Text(b)
			if err != api.OK && (s != "" || n != 0) {
				t.Errorf("Text(%x) = %q, %d with the error %d", b, s, n, err)
			}
			if err == api.OK && !bytes.Equal(AppendText(nil, s), b[:n]) {
				t.Errorf("Text decodes %x as %q", b[:n], s)
			}
		}
	}
}

// P3.3
func TestFixed(t *testing.T) {
	for i := range 32 {
		for _, v := range []uint32{1 << i, 1<<i - 1, ^uint32(1 << i), 0x89ABCDEF} {
			encoding := AppendFixed(nil, v)
			if want := binary.LittleEndian.AppendUint32(nil, v); !bytes.Equal(encoding, want) {
				t.Errorf("AppendFixed(nil, %#x) = %x, want %x", v, encoding, want)
			}
			for _, tail := range []string{"", "\x00", "\xff\xff"} {
				got, err := Fixed(append(bytes.Clone(encoding), tail...))
				if got != v || err != api.OK {
					t.Errorf("Fixed of the encoding of %#x before %q is %#x, %d", v, tail, got, err)
				}
			}
		}
	}
	for n := range 4 {
		if v, err := Fixed([]byte{0xFF, 0xFF, 0xFF}[:n]); v != 0 || err != api.ErrTruncated {
			t.Errorf("Fixed of %d bytes is %#x, %d", n, v, err)
		}
	}
	// What follows b in memory does not count.
	if v, err := Fixed([]byte{1, 2, 3, 4}[:3]); v != 0 || err != api.ErrTruncated {
		t.Errorf("Fixed of three bytes with spare capacity is %#x, %d", v, err)
	}
}

// P3.2 and P3.3, and the rule that arguments are neither modified nor kept.
func TestDecodersLeaveTheirArgument(t *testing.T) {
	b := AppendText(nil, "kept text")
	before := bytes.Clone(b)
	Uint(b)
	Fixed(b)
	s, n, err := Text(b)
	if !bytes.Equal(b, before) {
		t.Errorf("decoding changes %x to %x", before, b)
	}
	clear(b)
	if s != "kept text" || n != len(before) || err != api.OK {
		t.Errorf("after its argument was cleared, the result of Text is %q, %d, %d", s, n, err)
	}
}

// What is encoded one behind the other is decoded one behind the other.
func TestSequence(t *testing.T) {
	var b []byte
	for _, v := range numbers() {
		b = AppendFixed(AppendText(AppendUint(b, v), "host.example"), uint32(v))
	}
	for _, v := range numbers() {
		number, n, err := Uint(b)
		if number != v || err != api.OK {
			t.Fatalf("the number %d is decoded as %d, %d", v, number, err)
		}
		b = b[n:]
		text, n, err := Text(b)
		if text != "host.example" || err != api.OK {
			t.Fatalf("the string behind %d is decoded as %q, %d", v, text, err)
		}
		b = b[n:]
		fixed, err := Fixed(b)
		if fixed != uint32(v) || err != api.OK {
			t.Fatalf("the fixed number behind %d is decoded as %d, %d", v, fixed, err)
		}
		b = b[4:]
	}
	if len(b) != 0 {
		t.Errorf("%d bytes are left", len(b))
	}
}
