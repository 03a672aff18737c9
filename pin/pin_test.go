package pin

import (
	"bytes"
	"encoding/binary"
	"fmt"
	"math"
	"math/rand"
	"slices"
	"strings"
	"testing"
	"unsafe"

	"hstsstore/api"
	"hstsstore/host"
	"hstsstore/wire"
)

// longest is a domain name of MaxDomain bytes.
var longest = strings.Repeat(strings.Repeat("a", 62)+".", 4) + "b"

// canonical are canonical domain names, and others are not.
var (
	canonical = []string{"x", "com", "a.com", "x.a.com", "a-b.c", "xn--tda.x", "1.a", "0a", strings.Repeat("l", api.MaxLabel), longest}
	others    = []string{"", ".", "a.", ".a", "a..b", "A", "a.B", "a b", "a_b.", "-", "1.2.3.4", "a.1", "0x1", "[::1]", "\x00", "\xFF", "\u00FC", "xn--", "xn--a-", strings.Repeat("l", api.MaxLabel+1), longest + "b", longest + ".", strings.Repeat("a.", api.MaxHost) + "a"}
)

// times are expiries of valid pins, and noTimes are none.
var (
	times   = []int{0, 1, 5, 127, 128, 300, 1<<31 - 1, 1 << 32, api.MaxTime - 1, api.MaxTime}
	noTimes = []int{-1, -5, api.MaxTime + 1, 2 * api.MaxTime, -api.MaxTime, math.MaxInt, math.MinInt}
)

// number returns the encoding of a number by the definition.
func number(v uint64) []byte { return binary.AppendUvarint(nil, v) }

// encoded returns the encodings of a string and of two numbers, one behind the other.
func encoded(name string, sub, expiry uint64) []byte {
	return slices.Concat(number(uint64(len(name))), []byte(name), number(sub), number(expiry))
}

// encodeByDefinition returns the encoding of p.
func encodeByDefinition(p api.Pin) []byte {
	return encoded(p.Host, map[bool]uint64{true: 1}[p.IncludeSub], uint64(p.Expiry))
}

// labelsByDefinition returns the labels of a name from the last one to the first one.
func labelsByDefinition(name string) []string {
	labels := strings.Split(name, ".")
	slices.Reverse(labels)
	return labels
}

// compareByDefinition returns the result of Compare: slices.Compare orders lists by their
// first elements that differ, and a list that ends before comes first.
func compareByDefinition(a, b string) int {
	return slices.Compare(labelsByDefinition(a), labelsByDefinition(b))
}

// texts calls f with each text of up to n of the fragments.
func texts(fragments []string, n int, f func(text string)) {
	f("")
	if n == 0 {
		return
	}
	for _, fragment := range fragments {
		texts(fragments, n-1, func(text string) {
			f(fragment + text)
		})
	}
}

func checkValid(t *testing.T, p api.Pin, want bool) {
	t.Helper()
	if Valid(p) != want {
		t.Errorf("Valid(%.100q) is not %v", fmt.Sprint(p), want)
	}
	b, e := Encode(p)
	if !want {
		if len(b) != 0 || e != api.ErrInvalid {
			t.Errorf("Encode(%.100q) is %d and %d", fmt.Sprint(p), b, e)
		}
		return
	}
	if !bytes.Equal(b, encodeByDefinition(p)) || e != api.OK {
		t.Errorf("Encode(%.100q) is %d and %d", fmt.Sprint(p), b, e)
	}
	for _, behind := range []string{"", "\x00", "\x01", "\x80", "\xFF\xFF", string(b)} {
		checkDecode(t, append(slices.Clip(b), behind...), p, len(b), api.OK)
	}
}

func checkDecode(t *testing.T, b []byte, p api.Pin, n int, err api.Errno) {
	t.Helper()
	if got, size, e := Decode(b); got != p || size != n || e != err {
		t.Errorf("Decode(%.300q) is %.100q, %d and %d, not %.100q, %d and %d", b, fmt.Sprint(got), size, e, fmt.Sprint(p), n, err)
	}
}

func checkCompare(t *testing.T, a, b string) {
	t.Helper()
	if got, want := Compare(a, b), compareByDefinition(a, b); got != want {
		t.Errorf("Compare(%.100q, %.100q) is %d, not %d", a, b, got, want)
	}
}

// P22.1, P22.2: which pins are valid, and their encodings; and that others have none.
func TestValid(t *testing.T) {
	for _, sub := range []bool{false, true} {
		for _, name := range canonical {
			for _, expiry := range times {
				checkValid(t, api.Pin{Host: name, IncludeSub: sub, Expiry: expiry}, true)
			}
			for _, expiry := range noTimes {
				checkValid(t, api.Pin{Host: name, IncludeSub: sub, Expiry: expiry}, false)
			}
		}
		for _, name := range others {
			for _, expiry := range slices.Concat(times, noTimes) {
				checkValid(t, api.Pin{Host: name, IncludeSub: sub, Expiry: expiry}, false)
			}
		}
	}
	checkValid(t, api.Pin{}, false)
}

// P22.1, P22.2: all short names, and every byte in each place.
func TestNames(t *testing.T) {
	try := func(name string) {
		checkValid(t, api.Pin{Host: name, IncludeSub: true, Expiry: 7}, host.ValidName(name))
		if !host.ValidName(name) {
			checkDecode(t, encoded(name, 1, 7), api.Pin{}, 0, api.ErrHost)
		}
	}
	texts([]string{"a", "1", "-", ".", "A", "xn--", "\xFF"}, 5, try)
	for _, name := range []string{"a.bc", "x"} {
		for i := range len(name) + 1 {
			for b := range 256 {
				try(name[:i] + string([]byte{byte(b)}) + name[i:])
			}
		}
	}
}

// P22.1, P22.2: every bit and the neighbours of every power of two as an expiry.
func TestExpiries(t *testing.T) {
	for bit := range 63 {
		for _, change := range []int{-1, 0, 1} {
			for _, expiry := range []int{1<<bit + change, -(1<<bit + change)} {
				checkValid(t, api.Pin{Host: "a.b", Expiry: expiry}, 0 <= expiry && expiry <= api.MaxTime)
			}
		}
	}
}

// P22.1: names in their order.
func TestOrder(t *testing.T) {
	order := []string{
		"", ".", "..", "a..", "a.", "x.a.",
		"-", "0", "A", ".A", "A.A", "a.A",
		"a", ".a", "..a", "-.a", "-b.a", "0.a", "A.a", "a.a", "b.a.a", "a-.a", "a-b.a", "a0.a", "ab.a", "z.ab.a", "b.a", "a.b.a",
		"a-", "b.a-", "a0", "aa", "a.aa", "b",
		"com", "a.com", "x.a.com", "y.x.a.com", "b.com", "a.net",
		"\xC3", "\u00FC", "\u00FC.\u00FC", "\xFF", "a.\xFF", "\xFF.\xFF", "\xFF\x00", "\xFF\xFF",
	}
	for i, a := range order {
		for k, b := range order {
			want := 0
			if i < k {
				want = -1
			} else if i > k {
				want = 1
			}
			if got := Compare(a, b); got != want {
				t.Errorf("Compare(%q, %q) is %d, not %d", a, b, got, want)
			}
			checkCompare(t, a, b)
		}
	}
}

// P22.1: the order of all pairs of short strings, which is total.
func TestCompareOfShortTexts(t *testing.T) {
	var all []string
	texts([]string{"a", "b", ".", "-"}, 4, func(text string) { all = append(all, text) })
	texts([]string{"\x00", "\xFF", "..", "A"}, 2, func(text string) { all = append(all, text) })
	slices.Sort(all)
	all = slices.Compact(all)
	for _, a := range all {
		for _, b := range all {
			checkCompare(t, a, b)
		}
	}
	slices.SortFunc(all, Compare)
	for i, a := range all {
		for k, b := range all {
			if (i < k) != (Compare(a, b) < 0) || (i == k) != (Compare(a, b) == 0) {
				t.Fatalf("%q is at %d and %q at %d, but Compare is %d", a, i, b, k, Compare(a, b))
			}
		}
	}
}

// P22.1: each pair of bytes in labels: bytes are compared as numbers, and dots are none of them.
func TestCompareOfBytes(t *testing.T) {
	for i := range 256 * 256 {
		a, b := string([]byte{byte(i >> 8)}), string([]byte{byte(i)})
		for _, c := range [][2]string{{a, b}, {"x" + a, "x" + b}, {a + "x.com", b + "x.com"}, {"a." + b, "b." + a}, {a + b, b}, {a + ".x", b}} {
			checkCompare(t, c[0], c[1])
		}
	}
}

// P22.1: long strings, of many labels or of long ones.
func TestCompareOfLongTexts(t *testing.T) {
	for _, part := range []string{".", "a", "a.", ".a", "ab.c", longest} {
		long := strings.Repeat(part, 1<<16/len(part))
		for _, a := range []string{"", "x", "x.", ".", ".x"} {
			for _, b := range []string{"", "x", "y", ".x", "x.", "."} {
				checkCompare(t, a+long, b+long)
				checkCompare(t, long+a, long+b)
				checkCompare(t, a+long, b)
			}
		}
	}
}

// P22.1: a domain follows its superdomains, and its subdomains follow it directly.
func TestSubdomainsFollow(t *testing.T) {
	var names []string
	texts([]string{"a", "b", ".", "-c"}, 5, func(text string) {
		if host.ValidName(text) {
			names = append(names, text)
		}
	})
	slices.SortFunc(names, Compare)
	for i, name := range names {
		below := 0
		for k, other := range names {
			if other == name || !host.Covers(name, other) {
				continue
			}
			if below++; k <= i {
				t.Errorf("%q is not behind %q", other, name)
			}
		}
		for _, other := range names[i+1 : i+1+below] {
			if !host.Covers(name, other) {
				t.Errorf("%q is between %q and its subdomains", other, name)
			}
		}
	}
}

// choice is how a part of an encoding may look, with the error that it causes.
type choice struct {
	part string
	err  api.Errno
}

var tooLarge = strings.Repeat("\xFF", 10) + "\x01"

// P22.2: the first error, for every choice of the three parts.
func TestDecodeErrors(t *testing.T) {
	text := func(s string) string { return string(number(uint64(len(s)))) + s }
	names := []choice{
		{text("a"), api.OK},
		{text("xn--tda.b"), api.OK},
		{text(longest), api.OK},
		{tooLarge, api.ErrOverflow},
		{"\x81\x00a", api.ErrForm},
		{"\x80\x00", api.ErrForm},
		{text(strings.Repeat("a", api.MaxText+1)), api.ErrLimit},
		{string(number(math.MaxUint64)), api.ErrLimit},
		{string(number(api.MaxText)) + "a", api.ErrTruncated},
	}
	for _, name := range others {
		if len(name) <= api.MaxText {
			names = append(names, choice{text(name), api.ErrHost})
		}
	}
	names = append(names, choice{text(strings.Repeat("a", api.MaxText)), api.ErrHost})
	subs := []choice{{"\x00", api.OK}, {"\x01", api.OK}, {"\x02", api.ErrForm}, {"\x7F", api.ErrForm}, {"\x80\x01", api.ErrForm}, {"\x81\x02", api.ErrForm}, {string(number(1 << 32)), api.ErrForm}, {string(number(1<<32 + 1)), api.ErrForm}, {string(number(math.MaxUint64)), api.ErrForm}, {"\x80\x00", api.ErrForm}, {"\x81\x00", api.ErrForm}, {tooLarge, api.ErrOverflow}}
	expiries := []choice{{"\x00", api.OK}, {"\x05", api.OK}, {string(number(300)), api.OK}, {string(number(api.MaxTime)), api.OK}, {string(number(api.MaxTime + 1)), api.ErrRange}, {string(number(1 << 63)), api.ErrRange}, {string(number(math.MaxUint64)), api.ErrRange}, {"\x80\x00", api.ErrForm}, {string(number(api.MaxTime + 1)[:5]) + "\x80\x00", api.ErrForm}, {tooLarge, api.ErrOverflow}, {"", api.ErrTruncated}, {"\x80", api.ErrTruncated}, {"\xFF\xFF", api.ErrTruncated}}
	for _, name := range names {
		for _, sub := range subs {
			for _, expiry := range expiries {
				checkChoices(t, name, sub, expiry)
			}
		}
	}
}

// checkChoices checks the pin that consists of the parts: an error of the host's name comes
// last, and the other errors in the order of the parts.
func checkChoices(t *testing.T, name, sub, expiry choice) {
	t.Helper()
	b := []byte(name.part + sub.part + expiry.part)
	if name.err == api.ErrTruncated {
		checkDecode(t, []byte(name.part), api.Pin{}, 0, name.err)
		return
	}
	first := name.err
	if name.err == api.OK || name.err == api.ErrHost {
		for _, err := range []api.Errno{name.err, expiry.err, sub.err} {
			if err != api.OK {
				first = err
			}
		}
	}
	if first != api.OK {
		checkDecode(t, b, api.Pin{}, 0, first)
		return
	}
	_, size := binary.Uvarint([]byte(name.part))
	when, _ := binary.Uvarint([]byte(expiry.part))
	p := api.Pin{Host: name.part[size:], IncludeSub: sub.part == "\x01", Expiry: int(when)}
	checkDecode(t, b, p, len(b), api.OK)
	checkValid(t, p, true)
}

// P22.2: every beginning of an encoding.
func TestDecodeTruncated(t *testing.T) {
	for _, p := range []api.Pin{{Host: "x"}, {Host: "a.b", IncludeSub: true, Expiry: 5}, {Host: longest, Expiry: api.MaxTime}} {
		b := encodeByDefinition(p)
		for n := range b {
			checkDecode(t, b[:n], api.Pin{}, 0, api.ErrTruncated)
			// What lies behind the end is not read.
			checkDecode(t, slices.Clip(b[:n]), api.Pin{}, 0, api.ErrTruncated)
		}
		checkDecode(t, b, p, len(b), api.OK)
	}
	checkDecode(t, nil, api.Pin{}, 0, api.ErrTruncated)
	// The name is checked last, and the rest is not read behind an error.
	checkDecode(t, []byte("\x01A"), api.Pin{}, 0, api.ErrTruncated)
	checkDecode(t, []byte("\x01A\x01"), api.Pin{}, 0, api.ErrTruncated)
	checkDecode(t, []byte("\x00\x02"), api.Pin{}, 0, api.ErrForm)
	checkDecode(t, []byte("\x01a\x02"), api.Pin{}, 0, api.ErrForm)
	checkDecode(t, []byte("\x81\x00"), api.Pin{}, 0, api.ErrForm)
}

// decodeByDefinition returns the results of Decode: the steps are taken in order, and the
// first error ends them.
func decodeByDefinition(b []byte) (p api.Pin, n int, err api.Errno) {
	var sub, expiry uint64
	advance := func(size int, e api.Errno) {
		n, err = n+size, e
	}
	fail := func(failed bool, e api.Errno) {
		if failed {
			err = e
		}
	}
	var size int
	for _, step := range []func(){
		func() { p.Host, size, err = wire.Text(b); advance(size, err) },
		func() { sub, size, err = wire.Uint(b[n:]); advance(size, err) },
		func() { fail(sub > 1, api.ErrForm) },
		func() { expiry, size, err = wire.Uint(b[n:]); advance(size, err) },
		func() { fail(expiry > api.MaxTime, api.ErrRange) },
		func() { fail(!host.ValidName(p.Host), api.ErrHost) },
	} {
		if step(); err != api.OK {
			return api.Pin{}, 0, err
		}
	}
	p.IncludeSub, p.Expiry = sub == 1, int(expiry)
	return p, n, api.OK
}

func checkDecodeByDefinition(t *testing.T, b []byte) {
	t.Helper()
	p, n, err := decodeByDefinition(b)
	checkDecode(t, b, p, n, err)
	if err != api.OK {
		return
	}
	if back, e := Encode(p); !bytes.Equal(back, b[:n]) || e != api.OK {
		t.Errorf("Encode(%.100q) is %d and %d, not %d", fmt.Sprint(p), back, e, b[:n])
	}
}

// P22.2: every byte in each place, and all short inputs.
func TestDecodeOfEachByte(t *testing.T) {
	for _, p := range []api.Pin{{Host: "a.bc", IncludeSub: true, Expiry: 300}, {Host: "x"}, {Host: "xn--tda", Expiry: api.MaxTime}} {
		b := encodeByDefinition(p)
		for i := range len(b) + 1 {
			for c := range 256 {
				checkDecodeByDefinition(t, slices.Insert(slices.Clone(b), i, byte(c)))
				if i < len(b) {
					checkDecodeByDefinition(t, slices.Replace(slices.Clone(b), i, i+1, byte(c)))
				}
			}
		}
	}
	texts([]string{"\x00", "\x01", "\x02", "\x80", "\xFF", "a", "A", "."}, 5, func(text string) {
		checkDecodeByDefinition(t, []byte(text))
	})
}

// P22.1, P22.2: random pins and bytes.
func TestRandom(t *testing.T) {
	random := rand.New(rand.NewSource(22))
	pieces := []string{"a", "b", "0", "-", ".", "xn--tda", "c.d", "1", "A", "\xFF"}
	name := func() string {
		text := ""
		for range random.Intn(8) {
			text += pieces[random.Intn(len(pieces))]
		}
		return text
	}
	for range 20000 {
		a, b := name(), name()
		checkCompare(t, a, b)
		checkCompare(t, a+"."+b, b)
		expiry := int(random.Uint64()) >> random.Intn(64)
		valid := host.ValidName(a) && 0 <= expiry && expiry <= api.MaxTime
		checkValid(t, api.Pin{Host: a, IncludeSub: random.Intn(2) == 1, Expiry: expiry}, valid)
		input := encoded(a, uint64(random.Intn(3)), random.Uint64()>>random.Intn(64))
		for range random.Intn(3) {
			input[random.Intn(len(input))] = byte(random.Intn(256))
		}
		checkDecodeByDefinition(t, input[:random.Intn(len(input)+1)])
		checkDecodeByDefinition(t, append(input, byte(random.Intn(256))))
	}
}

// overwrite changes the bytes of s, which must not be a constant.
func overwrite(s string) {
	b := unsafe.Slice(unsafe.StringData(s), len(s))
	for i := range b {
		b[i] = '#'
	}
}

// P22.1, P22.2: arguments are neither changed nor kept, and results are new.
func TestSharedMemory(t *testing.T) {
	name := strings.Clone("aa.bb.example")
	p := api.Pin{Host: name, IncludeSub: true, Expiry: 1 << 30}
	first, _ := Encode(p)
	second, _ := Encode(p)
	want := string(first)
	for i := range first[:cap(first)] {
		first[:cap(first)][i] = '!'
	}
	if string(second) != want || name != "aa.bb.example" {
		t.Errorf("%q and %q", second, name)
	}
	overwrite(name)
	if string(second) != want {
		t.Errorf("%q, not %q", second, want)
	}

	input := append(make([]byte, 0, 2*len(want)), want+"rest"...)
	before := string(input[:cap(input)])
	decoded, _, _ := Decode(input)
	again, _, _ := Decode(input)
	if string(input[:cap(input)]) != before {
		t.Errorf("Decode changed %q to %q", before, input[:cap(input)])
	}
	clear(input[:cap(input)])
	overwrite(decoded.Host)
	if again.Host != "aa.bb.example" {
		t.Errorf("the host is now %q", again.Host)
	}
}

// The examples of the chapter.
func TestExamples(t *testing.T) {
	names := []string{"com", "a.com", "x.a.com", "b.com", "a.net"}
	shuffled := []string{"x.a.com", "a.net", "com", "b.com", "a.com"}
	slices.SortFunc(shuffled, Compare)
	if !slices.Equal(shuffled, names) {
		t.Errorf("the order is %q", shuffled)
	}
	b, e := Encode(api.Pin{Host: "a.b", IncludeSub: true, Expiry: 5})
	if !bytes.Equal(b, []byte{0x03, 'a', '.', 'b', 0x01, 0x05}) || e != api.OK {
		t.Errorf("the encoding is %d and %d", b, e)
	}
}
