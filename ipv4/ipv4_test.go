package ipv4

import (
	"fmt"
	"math"
	"math/big"
	"math/rand"
	"slices"
	"strconv"
	"strings"
	"testing"
)

// The digits of the three bases.
const (
	octalDigits   = "01234567"
	decimalDigits = octalDigits + "89"
	hexDigits     = decimalDigits + "abcdefABCDEF"
)

// only reports whether s is not empty and consists of the given digits.
func only(s, digits string) bool {
	return s != "" && strings.Trim(s, digits) == ""
}

// partsOf returns the parts of s by the chapter's definition.
func partsOf(s string) []string {
	all := strings.Split(s, ".")
	if last := len(all) - 1; last > 0 && all[last] == "" {
		return all[:last]
	}
	return all
}

// numberOf returns the number that a part denotes by the chapter's definition, and nil if
// it denotes none.
func numberOf(part string) *big.Int {
	digits, base, allowed := part, 10, decimalDigits
	switch {
	case part == "0x" || part == "0X":
		return new(big.Int)
	case strings.HasPrefix(part, "0x") || strings.HasPrefix(part, "0X"):
		digits, base, allowed = part[2:], 16, hexDigits
	case len(part) >= 2 && part[0] == '0':
		digits, base, allowed = part[1:], 8, octalDigits
	}
	if !only(digits, allowed) {
		return nil
	}
	n, ok := new(big.Int).SetString(digits, base)
	if !ok {
		panic("not a number: " + part)
	}
	return n
}

// addressOf returns what ParseNumbers promises for s.
func addressOf(s string) (uint32, bool) {
	parts := partsOf(s)
	if len(parts) > 4 {
		return 0, false
	}
	address := new(big.Int)
	for i, part := range parts {
		limit, weight := int64(256), int64(1)<<(8*(3-i))
		if i == len(parts)-1 {
			limit, weight = int64(1)<<(8*(5-len(parts))), 1
		}
		n := numberOf(part)
		if n == nil || n.Cmp(big.NewInt(limit)) >= 0 {
			return 0, false
		}
		address.Add(address, n.Mul(n, big.NewInt(weight)))
	}
	return uint32(address.Uint64()), true
}

// isNumeric returns what Numeric promises for s.
func isNumeric(s string) bool {
	parts := partsOf(s)
	last := parts[len(parts)-1]
	if strings.HasPrefix(last, "0x") || strings.HasPrefix(last, "0X") {
		return numberOf(last) != nil
	}
	return only(last, decimalDigits)
}

// strictOf returns the address whose strict form is s by the chapter's definition.
func strictOf(s string) (uint32, bool) {
	numbers := strings.Split(s, ".")
	if len(numbers) != 4 {
		return 0, false
	}
	var v uint32
	for _, text := range numbers {
		n, err := strconv.Atoi(text)
		if err != nil || n < 0 || n > 255 || strconv.Itoa(n) != text {
			return 0, false
		}
		v = v<<8 + uint32(n)
	}
	return v, true
}

// check compares all functions with their promises for s.
func check(t *testing.T, s string) {
	t.Helper()
	v, ok := Parse(s)
	if want, wantOK := strictOf(s); v != want || ok != wantOK {
		t.Errorf("Parse(%.80q) = %#x, %v, want %#x, %v", s, v, ok, want, wantOK)
	}
	if ok && Format(v) != s {
		t.Errorf("Format(Parse(%.80q)) = %q", s, Format(v))
	}
	if got, want := Numeric(s), isNumeric(s); got != want {
		t.Errorf("Numeric(%.80q) = %v, want %v", s, got, want)
	}
	n, okN := ParseNumbers(s)
	if want, wantOK := addressOf(s); n != want || okN != wantOK {
		t.Errorf("ParseNumbers(%.80q) = %#x, %v, want %#x, %v", s, n, okN, want, wantOK)
	}
	if ok && (n != v || !okN) {
		t.Errorf("ParseNumbers(%.80q) = %#x, %v, but Parse returns %#x", s, n, okN, v)
	}
	if okN && !Numeric(s) {
		t.Errorf("%.80q is an address, but not numeric", s)
	}
}

// checkNumbers compares ParseNumbers with the address, or with false for none.
func checkNumbers(t *testing.T, s string, want uint32, wantOK bool) {
	t.Helper()
	if got, ok := ParseNumbers(s); got != want || ok != wantOK {
		t.Errorf("ParseNumbers(%.80q) = %#x, %v, want %#x, %v", s, got, ok, want, wantOK)
	}
}

// addresses returns addresses with few bits set or few not set, and some others.
func addresses() []uint32 {
	all := []uint32{0, math.MaxUint32, 0x01020304, 0x04030201, 0x7F000001, 0xC0A80001, 0x0A64C8FF, 0x80FF7F00}
	for i := range 32 {
		power := uint32(1) << i
		all = append(all, power, power-1, power+1, ^power)
	}
	return all
}

// notations returns the texts of n in each notation, also with zeros before it.
func notations(n uint64) []string {
	zeros := strings.Repeat("0", 40)
	oct, hex := strconv.FormatUint(n, 8), strconv.FormatUint(n, 16)
	return []string{
		strconv.FormatUint(n, 10), "0" + oct, "00" + oct, zeros + oct,
		"0x" + hex, "0X" + strings.ToUpper(hex), "0x0" + strings.ToUpper(hex), "0X" + zeros + hex,
	}
}

// texts calls f with every string of up to length bytes from the alphabet.
func texts(alphabet string, length int, f func(string)) {
	var extend func(string)
	extend = func(s string) {
		f(s)
		if len(s) == length {
			return
		}
		for i := range len(alphabet) {
			extend(s + alphabet[i:i+1])
		}
	}
	extend("")
}

// P10.1
func TestParseAndFormat(t *testing.T) {
	for _, c := range []struct {
		s string
		v uint32
	}{
		{"0.0.0.0", 0},
		{"0.0.0.1", 1},
		{"0.0.1.0", 0x100},
		{"0.1.0.0", 0x10000},
		{"1.0.0.0", 0x1000000},
		{"1.2.3.4", 0x01020304},
		{"127.0.0.1", 0x7F000001},
		{"128.0.0.128", 0x80000080},
		{"9.10.99.100", 0x090A6364},
		{"192.168.199.200", 0xC0A8C7C8},
		{"249.250.254.255", 0xF9FAFEFF},
		{"255.255.255.255", 0xFFFFFFFF},
		{"255.0.0.0", 0xFF000000},
		{"0.0.0.255", 0xFF},
	} {
		if got, ok := Parse(c.s); got != c.v || !ok {
			t.Errorf("Parse(%q) = %#x, %v, want %#x", c.s, got, ok, c.v)
		}
		if got := Format(c.v); got != c.s {
			t.Errorf("Format(%#x) = %q, want %q", c.v, got, c.s)
		}
		checkNumbers(t, c.s, c.v, true)
	}
}

// P10.1
func TestParseRejects(t *testing.T) {
	for _, s := range []string{
		"", ".", "..", "...", "....", "1", "1.", "1.2", "1.2.3", "1.2.3.", "1.2.3.4.", ".1.2.3.4", "1.2.3.4.5", "1.2.3.4..", "1.2.3.4.5.6.7.8",
		"1..3.4", ".2.3.4", "1.2..4", "1.2...4", "1.2.3..4",
		"1.2.3.04", "01.2.3.4", "1.02.3.4", "1.2.003.4", "00.0.0.0", "0.0.0.00", "0.0.0.000", "0.0.0.010",
		"1.2.3.256", "256.2.3.4", "1.256.3.4", "1.2.256.4", "1.2.3.260", "1.2.3.300", "1.2.3.999", "1.2.3.1000", "1.2.3.65536",
		"1.2.3.4294967296", "1.2.3.4294967300", "4294967297.2.3.4", "1.2.3.18446744073709551620", "1.2.3." + strings.Repeat("9", 500),
		"0x1.2.3.4", "1.2.3.0x4", "1.2.3.0X4", "1.2.3.0x", "1.2.3.a", "1.2.3.ff", "a.b.c.d", "1.2.3.4a", "1.2.3.x",
		"127.1", "2130706433", "0x7f000001", "1.2.772",
		" 1.2.3.4", "1.2.3.4 ", "1. 2.3.4", "1.2.3.4\n", "1.2.3.4\x00", "\x001.2.3.4", "1.2.3.+4", "1.2.3.-4", "-1.2.3.4", "1.2.3.-0", "1.2.3.1_0", "1.2.3.1e1", "1.2.3.4/", "1.2.3.4:80", "[1.2.3.4]",
		"1,2,3,4", "1.2.3,4", "1\u30022.3.4", "1.2.3.\u0664", "1.2.3.\uff14", "1.2.3.\xb2", "example.com",
	} {
		if got, ok := Parse(s); got != 0 || ok {
			t.Errorf("Parse(%.80q) = %#x, %v, want false", s, got, ok)
		}
	}
}

// P10.1: all numbers in all places, and greater ones.
func TestParseOfEveryNumber(t *testing.T) {
	for n := range 1200 {
		text := strconv.Itoa(n)
		for place := range 4 {
			numbers := []string{"9", "0", "255", "31"}
			numbers[place] = text
			s := strings.Join(numbers, ".")
			if v, ok := Parse(s); ok != (n <= 255) || ok && byte(v>>(24-8*place)) != byte(n) {
				t.Errorf("Parse(%q) = %#x, %v", s, v, ok)
			}
			check(t, s)
			numbers[place] = "0" + text
			check(t, strings.Join(numbers, "."))
		}
	}
}

// P10.1: Parse returns what was formatted.
func TestParseOfFormat(t *testing.T) {
	for _, v := range addresses() {
		want := fmt.Sprintf("%d.%d.%d.%d", v>>24, v>>16&0xFF, v>>8&0xFF, v&0xFF)
		if got := Format(v); got != want {
			t.Errorf("Format(%#x) = %q, want %q", v, got, want)
		}
		if got, ok := Parse(want); got != v || !ok {
			t.Errorf("Parse(%q) = %#x, %v, want %#x", want, got, ok, v)
		}
		check(t, want)
	}
}

// P10.2
func TestNumeric(t *testing.T) {
	for _, s := range []string{
		"0", "1", "00", "08", "09", "1.", "0.", "123", "256", "4294967296", strings.Repeat("9", 1000), strings.Repeat("0", 1000),
		"0x", "0X", "0x.", "0x0", "0xf", "0XF", "0x0123456789abcdefABCDEF", "0x" + strings.Repeat("f", 1000),
		"a.1", "a.1.", "a.09", "a.0x", "a.0X.", "a.0x1F", "example.com.5", "x..5", "..1", ".1", ".0x", "a b.7", "1.2.3.4", "1.2.3.4.5.6", "-1.2", "\x00.0", "\u00fc.3", "0xg.1", "1x.9.",
	} {
		if !Numeric(s) {
			t.Errorf("%.80q is not numeric", s)
		}
	}
	for _, s := range []string{
		"", ".", "..", "...", "1..", "0x..", "1...", "a", "a.", "1.a", "1.a.", "1.2.3.a", "example.com", "1.2.3.4.example",
		"f", "ff", "1f", "1x", "x", "x1", "0y", "0b1", "0o7", "00x1", "10x1", "0xg", "0x1g", "0xx1", "0x0x1", "0x-1", "0x+1", "0x_1", "0x1_0", "0x 1", "0x1 ", " 0x1", "a.0xg", "0x" + strings.Repeat("f", 1000) + "g",
		"-1", "+1", "1-", "1 ", " 1", "1 .", "1. ", "1.\n", "1_0", "1e1", "a.-1", "09a", "1\x00", "0x1\x00",
		"\u0661", "a.\u0661", "\uff11", "1\uff0e", "\xb2", "0\u0445", strings.Repeat("9", 1000) + "x", "x" + strings.Repeat("9", 1000),
	} {
		if Numeric(s) {
			t.Errorf("%.80q is numeric", s)
		}
	}
}

// P10.3
func TestParseNumbers(t *testing.T) {
	for _, c := range []struct {
		s    string
		want uint32
	}{
		{"0", 0}, {"1", 1}, {"255", 255}, {"256", 0x100}, {"2130706433", 0x7F000001}, {"4294967295", 0xFFFFFFFF},
		{"127.1", 0x7F000001}, {"1.0", 0x01000000}, {"1.256", 0x01000100}, {"1.16777215", 0x01FFFFFF}, {"255.16777215", 0xFFFFFFFF},
		{"1.2.3", 0x01020003}, {"1.2.256", 0x01020100}, {"1.2.65535", 0x0102FFFF}, {"255.255.65535", 0xFFFFFFFF},
		{"1.2.3.4", 0x01020304}, {"1.2.3.255", 0x010203FF},
		{"0.", 0}, {"127.1.", 0x7F000001}, {"1.2.772.", 0x01020304}, {"1.2.3.4.", 0x01020304},
		{"00", 0}, {"01", 1}, {"010", 8}, {"0377", 255}, {"037777777777", 0xFFFFFFFF}, {"017700000001", 0x7F000001}, {"0177.1", 0x7F000001}, {"01.02.03.04", 0x01020304}, {"0377.0377.0377.0377", 0xFFFFFFFF}, {"1.077777777", 0x01FFFFFF}, {"1.2.0177777", 0x0102FFFF},
		{"0x", 0}, {"0X", 0}, {"0x.", 0}, {"0x.0X.0x.0X", 0}, {"0x.0X.0x.0X.", 0}, {"1.0x", 0x01000000}, {"0x1.0x.2", 0x01000002},
		{"0x0", 0}, {"0xa", 10}, {"0XF", 15}, {"0xffffffff", 0xFFFFFFFF}, {"0XABCDEFab", 0xABCDEFAB}, {"0xAbCdEf12", 0xABCDEF12}, {"0x7f000001", 0x7F000001}, {"0xff.0xffffff", 0xFFFFFFFF}, {"0xff.0xff.0xffff", 0xFFFFFFFF}, {"0xff.0xff.0xff.0xff", 0xFFFFFFFF},
		{"0x7f.0.0.01.", 0x7F000001}, {"192.0250.0x1", 0xC0A80001}, {"0.0.0.0x80", 0x80}, {"256.", 0x100},
	} {
		checkNumbers(t, c.s, c.want, true)
	}
}

// P10.3
func TestParseNumbersRejects(t *testing.T) {
	for _, s := range []string{
		"", ".", "..", "...", "....", ".....", "1..", "1...", ".1", ".1.", "..1", "1..2", "1..2.", "1.2..3", "1.2.3..", "1.2.3.4..", ".1.2.3.4", "0x..", "0x..0x",
		"1.2.3.4.5", "1.2.3.4.5.", "0.0.0.0.0", "1.2.3.4.a", "0x.0x.0x.0x.0x", "1.2.3.4.5.6.7.8.9",
		"4294967296", "4294967297", "18446744073709551615", "18446744073709551616", "18446744073709551617", "340282366920938463463374607431768211457",
		"040000000000", "0x100000000", "0x1ffffffff", "02000000000000000000001", "0x10000000000000001",
		"256.1", "256.0.0.0", "1.256.1", "1.256.3.4", "1.2.256.4", "0400.1", "0x100.1", "65536.1", "4294967296.1", "4294967297.1", "18446744073709551617.1", "0x10000000000000001.1", "16777217.1",
		"1.16777216", "1.4294967295", "1.4294967296", "1.0x1000000", "1.0100000000", "1.2.65536", "1.2.16777215", "1.2.0x10000", "1.2.0200000", "1.2.3.256", "1.2.3.65535", "1.2.3.0400", "1.2.3.0x100", "1.18446744073709551617", "1.2.18446744073709551617", "1.2.3.18446744073709551617",
		"8.08", "08", "08.", "09", "08.1", "1.09", "018", "0778", "0008", "00a", "0a", "0f", "00x1", "0xg", "0x1g", "0xg.1", "0xx", "0x0x1", "10x1", "0y1", "0b1", "0o17",
		"a", "f", "ff", "x", "x1", "1a", "1.a", "a.1", "1.2.3.a", "example.com", "a.09", "1x", "1e1", "1_0", "0x1_0",
		"+1", "-1", "-0", "1.-1", "1.+1", "0x-1", "0x+1", "01 ", " 1", "1 ", "1. 1", "1 .1", "1\n", "\t1", "1\x00", "\x00", "1.\x00", "1.2.3.4 ", "1,2", "1:2", "1/2", "0x:", "0x/", "0x@", "0xG", "0x`",
		"\u0661", "1.\u0661", "\uff11", "1\u30022", "1\uff0e2", "\xb2", "0\u04451", "\xff",
	} {
		checkNumbers(t, s, 0, false)
	}
}

// P10.3: the last of one to four parts, around all borders and in all notations.
func TestParseNumbersOfLastPart(t *testing.T) {
	firsts := []string{"", "1.", "1.2.", "1.2.3."}
	given := []uint32{0, 0x01000000, 0x01020000, 0x01020300}
	for i, before := range firsts {
		limit := uint64(1) << (32 - 8*i)
		for _, border := range []uint64{2, 8, 10, 16, 1 << 8, 1 << 16, 1 << 24, 1 << 31, 1 << 32, 1 << 33, 1 << 40, 1 << 63, math.MaxUint64 - 3} {
			for n := border - 2; n <= border+2; n++ {
				for _, text := range notations(n) {
					if n < limit {
						checkNumbers(t, before+text, given[i]+uint32(n), true)
						checkNumbers(t, before+text+".", given[i]+uint32(n), true)
					} else {
						checkNumbers(t, before+text, 0, false)
						checkNumbers(t, before+text+".", 0, false)
					}
				}
			}
		}
	}
}

// P10.3: a part that is not the last one is a byte, in all notations.
func TestParseNumbersOfOtherParts(t *testing.T) {
	for n := range uint64(600) {
		for _, text := range notations(n) {
			for _, c := range []struct {
				before, behind string
				rest, shift    uint32
			}{
				{"", ".5", 5, 24}, {"", ".5.6", 0x050006, 24}, {"", ".5.6.7", 0x050607, 24},
				{"4.", ".6", 0x04000006, 16}, {"4.", ".6.7", 0x04000607, 16}, {"4.5.", ".7", 0x04050007, 8},
			} {
				s := c.before + text + c.behind
				if n <= 255 {
					checkNumbers(t, s, c.rest|uint32(n)<<c.shift, true)
				} else {
					checkNumbers(t, s, 0, false)
				}
			}
		}
	}
}

// P10.2 and P10.3: a great number is too large in every place, whatever its lowest 32 or 64
// bits are.
func TestGreatNumbers(t *testing.T) {
	for i := range 140 {
		power := new(big.Int).Lsh(big.NewInt(1), uint(i))
		for d := int64(-3); d <= 3; d++ {
			n := new(big.Int).Add(power, big.NewInt(d))
			if n.Sign() < 0 {
				continue
			}
			for _, text := range []string{n.Text(10), "0" + n.Text(8), "0x" + n.Text(16)} {
				for _, form := range []string{"%", "%.", "%.1", "1.%", "1.%.1", "1.2.%", "1.2.%.4", "1.2.3.%", "%.%", "0.0.0.%"} {
					check(t, strings.ReplaceAll(form, "%", text))
				}
			}
		}
	}
}

// P10.2 and P10.3: digits of any length.
func TestLongParts(t *testing.T) {
	const length = 1 << 20
	zeros, nines, fs := strings.Repeat("0", length), strings.Repeat("9", length), strings.Repeat("f", length)
	for _, c := range []struct {
		s      string
		want   uint32
		wantOK bool
	}{
		{zeros, 0, true}, {zeros + "17", 15, true}, {zeros + "37777777777", math.MaxUint32, true}, {zeros + "40000000000", 0, false},
		{"0x" + zeros, 0, true}, {"0X" + zeros + "fF", 255, true}, {"0x" + zeros + "ffffffff", math.MaxUint32, true}, {"0x" + zeros + "100000000", 0, false},
		{zeros + "1." + zeros + "2." + zeros + "3." + zeros + "4.", 0x01020304, true},
		{nines, 0, false}, {"1" + zeros, 0, false}, {"0x" + fs, 0, false}, {"0x1" + zeros, 0, false}, {nines + ".1", 0, false}, {"1." + nines, 0, false},
	} {
		checkNumbers(t, c.s, c.want, c.wantOK)
		if !Numeric(c.s) || !Numeric("a."+c.s) {
			t.Errorf("%.40q is not numeric", c.s)
		}
		if v, ok := Parse(c.s); v != 0 || ok {
			t.Errorf("Parse(%.40q) = %#x, %v", c.s, v, ok)
		}
	}
	for _, s := range []string{nines + "x", "0x" + fs + "g", zeros + "x1", "0x" + zeros + "x", fs} {
		checkNumbers(t, s, 0, false)
		if Numeric(s) {
			t.Errorf("%.40q is numeric", s)
		}
	}
	checkNumbers(t, zeros+"8", 0, false)
}

// P10.1 to P10.3: more than four parts.
func TestManyParts(t *testing.T) {
	for n := 1; n <= 300; n++ {
		for _, part := range []string{"", "0", "1", "0x", "a", "09"} {
			s := strings.Join(slices.Repeat([]string{part}, n), ".")
			check(t, s)
			check(t, s+".")
			check(t, s+"..")
			check(t, "."+s)
		}
	}
	const length = 1 << 20
	for _, s := range []string{strings.Repeat(".", length), strings.Repeat("1.", length), strings.Repeat("1.", length) + "x", "1.2.3.4" + strings.Repeat(".", length)} {
		check(t, s)
	}
}

// P10.1 to P10.3: each byte in each place, instead of another one and between two.
func TestEveryByte(t *testing.T) {
	for _, s := range []string{"", "7", "12.34.56.78", "255.255.255.255", "0.0.0.0", "0x7f.1", "0Xa.0XB.0xC.0xd.", "017.016.015.014", "4294967295", "a.5", "a.0x5", "1.2.3.", "0x", "00"} {
		for i := range len(s) + 1 {
			for b := range 256 {
				c := string([]byte{byte(b)})
				check(t, s[:i]+c+s[i:])
				if i < len(s) {
					check(t, s[:i]+c+s[i+1:])
				}
			}
		}
	}
}

// P10.1 to P10.3: every short text of the bytes that have a meaning, and of some others.
func TestShortTexts(t *testing.T) {
	texts("012789afFgxX.- \xb1", 4, func(s string) { check(t, s) })
	texts("01.", 9, func(s string) { check(t, s) })
	texts("08x.", 7, func(s string) { check(t, s) })
}

// P10.1 to P10.3: up to five parts that are read in different ways.
func TestCombinedParts(t *testing.T) {
	parts := []string{"", "0", "1", "00", "010", "08", "0x", "0Xf", "0xg", "255", "256", "0377", "0400", "0xFF", "0x100", "65535", "65536", "16777215", "16777216", "4294967295", "4294967296", "a"}
	var extend func(string, int)
	extend = func(s string, n int) {
		check(t, s)
		if n == 3 {
			for _, last := range []string{"", "1", "0377", "0x100", "256"} {
				check(t, s+"."+last)
				check(t, s+"."+last+".")
				check(t, s+"."+last+".1")
			}
			return
		}
		for _, part := range parts {
			extend(s+"."+part, n+1)
		}
	}
	for _, part := range parts {
		extend(part, 1)
	}
}

// P10.1 and P10.3: random addresses, in the strict form and in others.
func TestRandomAddresses(t *testing.T) {
	r := rand.New(rand.NewSource(1))
	notation := func(n uint32) string {
		all := notations(uint64(n))
		return all[r.Intn(len(all))]
	}
	for range 20000 {
		v := r.Uint32() >> r.Intn(32) << r.Intn(32)
		s := Format(v)
		if got, ok := Parse(s); got != v || !ok {
			t.Errorf("Parse(%q) = %#x, %v, want %#x", s, got, ok, v)
		}
		checkNumbers(t, s, v, true)
		a, b, c, d := v>>24, v>>16&0xFF, v>>8&0xFF, v&0xFF
		checkNumbers(t, notation(v), v, true)
		checkNumbers(t, notation(a)+"."+notation(v&0xFFFFFF), v, true)
		checkNumbers(t, notation(a)+"."+notation(b)+"."+notation(v&0xFFFF), v, true)
		checkNumbers(t, notation(a)+"."+notation(b)+"."+notation(c)+"."+notation(d)+".", v, true)
	}
}

// The examples of the chapter.
func TestExamples(t *testing.T) {
	checkNumbers(t, "127.1", 0x7F000001, true)
	checkNumbers(t, "0x7f.0.0.01.", 0x7F000001, true)
	checkNumbers(t, "256", 0x00000100, true)
	if v, ok := Parse("1.2.3.04"); v != 0 || ok {
		t.Errorf("example 2: %#x, %v", v, ok)
	}
	if !Numeric("a.09") {
		t.Error("example 3: a.09 is not numeric")
	}
	checkNumbers(t, "a.09", 0, false)
}
