package ipv6

import (
	"fmt"
	"math/rand"
	"slices"
	"strconv"
	"strings"
	"testing"
)

// groupOf returns the group with the given text by the chapter's definition.
func groupOf(text string) (uint16, bool) {
	if len(text) < 1 || len(text) > 4 || strings.Trim(text, "0123456789abcdefABCDEF") != "" {
		return 0, false
	}
	n, err := strconv.ParseUint(text, 16, 16)
	return uint16(n), err == nil
}

// v4GroupsOf returns the two groups of the IPv4 address with the given strict form.
func v4GroupsOf(text string) ([]uint16, bool) {
	numbers := strings.Split(text, ".")
	if len(numbers) != 4 {
		return nil, false
	}
	var b [4]uint16
	for i, number := range numbers {
		n, err := strconv.Atoi(number)
		if err != nil || n < 0 || n > 255 || strconv.Itoa(n) != number {
			return nil, false
		}
		b[i] = uint16(n)
	}
	return []uint16{256*b[0] + b[1], 256*b[2] + b[3]}, true
}

// groupsOf returns the groups of the part of a text before or behind two colons. Only the
// end of the text may be an IPv4 address.
func groupsOf(text string, atEnd bool) ([]uint16, bool) {
	var groups []uint16
	parts := strings.Split(text, ":")
	for i, part := range parts {
		if group, ok := groupOf(part); ok {
			groups = append(groups, group)
		} else if pair, ok := v4GroupsOf(part); ok && atEnd && i == len(parts)-1 {
			groups = append(groups, pair...)
		} else {
			return nil, false
		}
	}
	return groups, true
}

// addressOf returns the address whose text is s by the chapter's definition.
func addressOf(s string) ([8]uint16, bool) {
	before, behind, found := strings.Cut(s, "::")
	var groups, last []uint16
	ok := true
	if before != "" || !found {
		groups, ok = groupsOf(before, !found)
	}
	if ok && behind != "" {
		last, ok = groupsOf(behind, true)
	}
	if !ok {
		return [8]uint16{}, false
	}
	zeros := 8 - len(groups) - len(last)
	if found && zeros < 1 || !found && zeros != 0 {
		return [8]uint16{}, false
	}
	groups = append(groups, make([]uint16, zeros)...)
	return [8]uint16(append(groups, last...)), true
}

// textOf returns the canonical text of a by the chapter's definition.
func textOf(a [8]uint16) string {
	start, length := 0, 1
	for i := range a {
		n := 0
		for i+n < 8 && a[i+n] == 0 {
			n++
		}
		if n > length {
			start, length = i, n
		}
	}
	var groups []string
	for _, group := range a {
		groups = append(groups, fmt.Sprintf("%x", group))
	}
	if length == 1 {
		return strings.Join(groups, ":")
	}
	return strings.Join(groups[:start], ":") + "::" + strings.Join(groups[start+length:], ":")
}

// check compares Parse with its promise for s, and the address with the promises for it.
func check(t *testing.T, s string) {
	t.Helper()
	a, ok := Parse(s)
	if want, wantOK := addressOf(s); a != want || ok != wantOK {
		t.Errorf("Parse(%.80q) = %x, %v, want %x, %v", s, a, ok, want, wantOK)
	}
	if ok {
		checkAddress(t, a)
	}
}

// checkAddress compares Format with its promise for a, and reads what it returns.
func checkAddress(t *testing.T, a [8]uint16) {
	t.Helper()
	s := Format(a)
	if want := textOf(a); s != want {
		t.Errorf("Format(%x) = %q, want %q", a, s, want)
	}
	if again, ok := Parse(s); again != a || !ok {
		t.Errorf("Parse(%q) = %x, %v, want %x", s, again, ok, a)
	}
}

// checkParse compares Parse with an address.
func checkParse(t *testing.T, s string, want [8]uint16) {
	t.Helper()
	if got, ok := Parse(s); got != want || !ok {
		t.Errorf("Parse(%q) = %x, %v, want %x", s, got, ok, want)
	}
}

// checkRejected compares Parse with false.
func checkRejected(t *testing.T, s string) {
	t.Helper()
	if got, ok := Parse(s); got != [8]uint16{} || ok {
		t.Errorf("Parse(%.80q) = %x, %v, want false", s, got, ok)
	}
}

// list returns the texts of n groups, from the first one on, separated by single colons.
func list(first, n int) string {
	var groups []string
	for i := range n {
		groups = append(groups, strconv.FormatInt(int64(first+i), 16))
	}
	return strings.Join(groups, ":")
}

// texts calls f with every string of up to length bytes from the alphabet.
func texts(alphabet string, length int, f func(string)) {
	var extend func(string)
	extend = func(s string) {
		f(s)
		if len(s) == length {
			return
		}
		for i := range len(alphabet) {
			extend(s + alphabet[i:i+1])
		}
	}
	extend("")
}

// patterns calls f with addresses of which each group is either 0 or the number from values
// that belongs to its place, for all choices of the groups.
func patterns(values [8]uint16, f func([8]uint16)) {
	for choice := range 256 {
		a := values
		for i := range a {
			if choice>>i&1 == 0 {
				a[i] = 0
			}
		}
		f(a)
	}
}

// P11.1
func TestParse(t *testing.T) {
	for _, c := range []struct {
		s    string
		want [8]uint16
	}{
		{"1:2:3:4:5:6:7:8", [8]uint16{1, 2, 3, 4, 5, 6, 7, 8}},
		{"0:0:0:0:0:0:0:0", [8]uint16{}},
		{"0000:000:00:0:00:000:0000:0", [8]uint16{}},
		{"0001:002:03:4:05:006:0007:8", [8]uint16{1, 2, 3, 4, 5, 6, 7, 8}},
		{"ffff:FFFF:fFfF:FfFf:aBcD:AbCd:0e0F:90eF", [8]uint16{0xFFFF, 0xFFFF, 0xFFFF, 0xFFFF, 0xABCD, 0xABCD, 0x0E0F, 0x90EF}},
		{"1234:5678:9abc:DEF0:10:200:3000:0a", [8]uint16{0x1234, 0x5678, 0x9ABC, 0xDEF0, 0x10, 0x200, 0x3000, 0xA}},
		{"::", [8]uint16{}},
		{"::1", [8]uint16{7: 1}},
		{"1::", [8]uint16{1}},
		{"::0", [8]uint16{}},
		{"0::", [8]uint16{}},
		{"0::0", [8]uint16{}},
		{"1::8", [8]uint16{0: 1, 7: 8}},
		{"1:2::8", [8]uint16{0: 1, 1: 2, 7: 8}},
		{"1::7:8", [8]uint16{0: 1, 6: 7, 7: 8}},
		{"1:2:3:4:5:6:7::", [8]uint16{1, 2, 3, 4, 5, 6, 7}},
		{"::2:3:4:5:6:7:8", [8]uint16{0, 2, 3, 4, 5, 6, 7, 8}},
		{"1:2:3:4::6:7:8", [8]uint16{1, 2, 3, 4, 0, 6, 7, 8}},
		{"1::3:4:5:6:7:8", [8]uint16{1, 0, 3, 4, 5, 6, 7, 8}},
		{"0:0::1:0:0", [8]uint16{5: 1}},
		{"fe80::1234", [8]uint16{0: 0xFE80, 7: 0x1234}},
		{"2001:db8::ff00:42:8329", [8]uint16{0x2001, 0xDB8, 0, 0, 0, 0xFF00, 0x42, 0x8329}},
		{"1:2:3:4:5:6:1.2.3.4", [8]uint16{1, 2, 3, 4, 5, 6, 0x0102, 0x0304}},
		{"1:2:3:4:5:6:0.0.0.0", [8]uint16{1, 2, 3, 4, 5, 6}},
		{"::1.2.3.4", [8]uint16{6: 0x0102, 7: 0x0304}},
		{"::255.254.253.252", [8]uint16{6: 0xFFFE, 7: 0xFDFC}},
		{"::10.0.99.199", [8]uint16{6: 0x0A00, 7: 0x63C7}},
		{"::ffff:1.2.3.4", [8]uint16{5: 0xFFFF, 6: 0x0102, 7: 0x0304}},
		{"64:ff9b::192.0.2.33", [8]uint16{0: 0x64, 1: 0xFF9B, 6: 0xC000, 7: 0x0221}},
		{"1:2:3:4:5::1.2.3.4", [8]uint16{1, 2, 3, 4, 5, 0, 0x0102, 0x0304}},
		{"1::5:6:1.2.3.4", [8]uint16{0: 1, 4: 5, 5: 6, 6: 0x0102, 7: 0x0304}},
		{"::2:3:4:5:6:1.2.3.4", [8]uint16{0, 2, 3, 4, 5, 6, 0x0102, 0x0304}},
	} {
		checkParse(t, c.s, c.want)
		check(t, c.s)
	}
}

// P11.1
func TestParseRejects(t *testing.T) {
	for _, s := range []string{
		"", ":", ":::", "::::", ":::::", "1", "1:", ":1", ":1:", "1:::", ":::1", "1:::2", "1::::2", "::1:", ":1::", "1::2:", ":1::2",
		"1:2", "1:2:3", "1:2:3:4", "1:2:3:4:5", "1:2:3:4:5:6", "1:2:3:4:5:6:7", "1:2:3:4:5:6:7:", ":1:2:3:4:5:6:7", ":1:2:3:4:5:6:7:",
		"1:2:3:4:5:6:7:8:", ":1:2:3:4:5:6:7:8", "1:2:3:4:5:6:7:8:9", "1:2:3:4:5:6:7:8::", "::1:2:3:4:5:6:7:8", "1:2:3:4::5:6:7:8", "1:2:3:4:5:6:7::8", "1::2:3:4:5:6:7:8", "1:2:3:4:5:6:7:8::9", "1:2:3:4:5:6:7:8:::",
		"::1::", "1::2::3", "::2::", "1::2::", "::1::2", "1::2:::3", "1:::2::3", "::::1", "::1:::2", "1:2::3:4::5:6:7:8", "0::0::0",
		"12345::", "::12345", "00000::", "::00001", "1:2:3:4:5:6:7:00008", "1:2:3:00004:5:6:7:8", "fffff::", "::10000", "1::23456:7", "::123456789abcdef",
		"g::", "::g", "::1g", "::g1", "::fg", "::fffg", "::ffffg", "::G", "::x", "::0x1", "1:2:3:4:5:6:7:h", "1:2:3:z:5:6:7:8",
		"1.2.3.4", "1.2.3.4::", "::1.2.3.4:5", "::1.2.3.4::", "1.2.3.4::5", "::1.2.3.4:", "1:2:3:4:5:1.2.3.4:8", "1:2:3:4:5:1.2.3.4::", "1.2.3.4:3:4:5:6:7:8", "::1.2.3.4:1.2.3.4", "1::1.2.3.4:8",
		"1:2:3:4:5:1.2.3.4", "1:1.2.3.4", "1:2:3:4:5:6:7:1.2.3.4", "1:2:3:4:5:6:7:8:1.2.3.4", "1:2:3:4:5:6::1.2.3.4", "1:2:3:4:5::6:1.2.3.4", "::1:2:3:4:5:6:1.2.3.4", "1:2:3:4:5:6:7::1.2.3.4", "::1:2:3:4:5:6:7:1.2.3.4",
		"::1.2.3", "::1.2", "::1.", "::.1", "::.", "::1.2.3.", "::1.2.3.4.", "::.1.2.3.4", "::1..3.4", "::1.2.3.4.5", "::1.2.3.04", "::01.2.3.4", "::1.2.3.256", "::256.2.3.4", "::1.2.3.1000", "::999.2.3.4",
		"::0x1.2.3.4", "::1.2.3.0x4", "::a.2.3.4", "::1.2.3.a", "::1.2.3.4a", "::127.1", "::1.2.3.-4", "::1.2.3.+4", "::1.2.3.4 ", "::1.2.3.4/5", "::ffff:", "::ffff.1.2.3.4", "1:2:3:4:5:6:7.8", "1:2:3:4:5:6:.7.8.9", "::1.2.3:4",
		"[::]", "[::1]", "[::", "::]", "::1%eth0", "::1%", "fe80::1%1", "::/0", "::1/128", "::1:80.", "::1]:80",
		" ::", ":: ", ": :", "::1 ", ":: 1", " ::1", "::\t", "::1\n", "::\x00", "\x00::", "::1\x00", "1:2:3:4:5:6:7:8 ", "1:2:3:4:5:6:7: 8", "1:2:3:4:5:6:7:8\n",
		"::-1", "::+1", "-1::", "::-", "::1-", "::1_0", "::1e+1", "1;2;3;4;5;6;7;8", "1-2-3-4-5-6-7-8", "1 2 3 4 5 6 7 8", "::1,2", "1..8", "..",
		"::\u0661", "::\uff11", "\uff1a\uff1a", "::\uff21", "::\xb2", "::1.2.3\u30024", "::\xff", "\xff::", "example.com", "a.b", "localhost",
	} {
		checkRejected(t, s)
		check(t, s)
	}
}

// P11.1: every number of groups before and behind the two colons, and without them, with an
// IPv4 address in each place and with single colons outside.
func TestNumbersOfGroups(t *testing.T) {
	for n := range 20 {
		s := list(1, n)
		if _, ok := Parse(s); ok != (n == 8) {
			t.Errorf("Parse(%q): %v", s, ok)
		}
		check(t, s)
		if n > 0 {
			s += ":"
		}
		check(t, s)
		check(t, ":"+s)
		check(t, s+"1.2.3.4")
		check(t, "1.2.3.4:"+s)
	}
	for n := range 12 {
		for m := range 12 {
			before, behind := list(1, n), list(0xFF01, m)
			s := before + "::" + behind
			if _, ok := Parse(s); ok != (n+m < 8) {
				t.Errorf("Parse(%q): %v", s, ok)
			}
			for _, outside := range []string{"", ":", "::", "9", "9:", ":9", "9::", "::9", "1.2.3.4", "1.2.3.4:", ":1.2.3.4", "1.2.3.4::", "::1.2.3.4"} {
				check(t, s+outside)
				check(t, outside+s)
				check(t, outside+s+outside)
			}
			check(t, before+":"+behind)
			check(t, before+":::"+behind)
			check(t, before+"::1.2.3.4:"+behind)
			check(t, before+":1.2.3.4::"+behind)
		}
	}
}

// P11.1: two colons in two places.
func TestTwoGaps(t *testing.T) {
	for n := range 9 {
		for m := range 9 {
			for l := range 9 {
				check(t, list(1, n)+"::"+list(1, m)+"::"+list(1, l))
			}
		}
	}
}

// P11.1 and P11.2: every value of a group, in lower and upper case, with and without zeros
// before it, and with a fifth digit.
func TestEveryGroup(t *testing.T) {
	for n := range 1 << 16 {
		want := [8]uint16{0: uint16(n), 7: 1}
		for _, form := range []string{"%x", "%X", "%02x", "%03X", "%04x", "%04X"} {
			checkParse(t, fmt.Sprintf(form, n)+"::1", want)
		}
		lower, upper := fmt.Sprintf("%04x", n), fmt.Sprintf("%04X", n)
		checkParse(t, lower[:2]+upper[2:]+"::1", want)
		checkRejected(t, "0"+lower+"::1")
		checkRejected(t, upper+"0::1")
		for place := range 8 {
			a := [8]uint16{1, 2, 0, 4, 5, 6, 0, 8}
			a[place] = uint16(n)
			checkAddress(t, a)
		}
	}
}

// P11.1: the numbers of an IPv4 address.
func TestEveryNumber(t *testing.T) {
	for n := range 1200 {
		for place := range 4 {
			for _, form := range []string{"%d", "0%d", "%d.", ".%d", "0x%x", "%x", "%o", "+%d", "-%d", "%d "} {
				numbers := []string{"9", "0", "255", "31"}
				numbers[place] = fmt.Sprintf(form, n)
				text := strings.Join(numbers, ".")
				check(t, "::"+text)
				check(t, "1::"+text)
				check(t, "a:b:c:d:e:f:"+text)
			}
		}
	}
	for n := range 256 {
		checkParse(t, fmt.Sprintf("::%d.%d.0.%d", n, 255-n, n), [8]uint16{6: uint16(n<<8 | 255 - n), 7: uint16(n)})
	}
}

// P11.1: each byte in each place, instead of another one and between two.
func TestEveryByte(t *testing.T) {
	for _, s := range []string{"", "::", "7", "1:2:3:4:5:6:7:8", "1234:5678:9abc:def0:ABCD:EF01:0:ffff", "::1", "1::", "12::34", "1:2:3:4:5:6:7::", "::2:3:4:5:6:7:8", "::12.34.56.78", "a:b:c:d:e:f:255.255.255.255", "1::ffff:0.0.0.0", "0000::0000"} {
		for i := range len(s) + 1 {
			for b := range 256 {
				c := string([]byte{byte(b)})
				check(t, s[:i]+c+s[i:])
				if i < len(s) {
					check(t, s[:i]+c+s[i+1:])
				}
			}
			if i < len(s) {
				check(t, s[:i]+s[i+1:])
				check(t, s[:i]+s[i:i+1]+s[i:])
			}
			check(t, s[:i])
			check(t, s[i:])
		}
	}
}

// P11.1: every short text of the bytes that have a meaning, and of some others.
func TestShortTexts(t *testing.T) {
	texts("09aAfFgG:. \xb1", 4, func(s string) { check(t, s) })
	texts("1:.", 10, func(s string) { check(t, s) })
	texts("0:", 16, func(s string) { check(t, s) })
	texts("12.", 8, func(s string) { check(t, "::"+s); check(t, "1:2:3:4:5:6:"+s); check(t, "1:2:3:4:5:6:7:"+s) })
}

// P11.1: texts of any length.
func TestLongTexts(t *testing.T) {
	const length = 1 << 20
	for _, part := range []string{"0", "f", ":", ".", "::", "0:", "0::", ":0", "1.", "1.2.3.4:", "1.2.3.4.", "g", "\x00", "12345"} {
		long := strings.Repeat(part, length)
		for _, s := range []string{long, "::" + long, long + "::", "1:2:3:4:5:6:" + long, "1:2:3:4:5:6:7:8" + long, "::1.2.3.4" + long, "::1.2.3." + long, "::1." + long, long + "1.2.3.4", long + "::1.2.3.4"} {
			checkRejected(t, s)
		}
	}
}

// P11.2
func TestFormat(t *testing.T) {
	for _, c := range []struct {
		a    [8]uint16
		want string
	}{
		{[8]uint16{}, "::"},
		{[8]uint16{7: 1}, "::1"},
		{[8]uint16{1}, "1::"},
		{[8]uint16{1, 2, 3, 4, 5, 6, 7, 8}, "1:2:3:4:5:6:7:8"},
		{[8]uint16{0xA, 0xBC, 0xDEF, 0x1234, 0xABCD, 0x10, 0x200, 0xF000}, "a:bc:def:1234:abcd:10:200:f000"},
		{[8]uint16{0xFFFF, 0xFFFF, 0xFFFF, 0xFFFF, 0xFFFF, 0xFFFF, 0xFFFF, 0xFFFF}, "ffff:ffff:ffff:ffff:ffff:ffff:ffff:ffff"},
		{[8]uint16{0x2001, 0xDB8, 0, 0, 0, 0, 2, 1}, "2001:db8::2:1"},
		{[8]uint16{0x2001, 0xDB8, 0, 1, 1, 1, 1, 1}, "2001:db8:0:1:1:1:1:1"},
		{[8]uint16{0x2001, 0, 0, 1, 0, 0, 0, 1}, "2001:0:0:1::1"},
		{[8]uint16{0, 2, 3, 4, 5, 6, 7, 8}, "0:2:3:4:5:6:7:8"},
		{[8]uint16{1, 2, 3, 4, 5, 6, 7, 0}, "1:2:3:4:5:6:7:0"},
		{[8]uint16{1, 2, 3, 0, 5, 6, 7, 8}, "1:2:3:0:5:6:7:8"},
		{[8]uint16{0, 2, 0, 4, 0, 6, 0, 8}, "0:2:0:4:0:6:0:8"},
		{[8]uint16{0, 0, 3, 4, 5, 6, 7, 8}, "::3:4:5:6:7:8"},
		{[8]uint16{1, 2, 3, 4, 5, 6, 0, 0}, "1:2:3:4:5:6::"},
		{[8]uint16{1, 2, 3, 0, 0, 6, 7, 8}, "1:2:3::6:7:8"},
		{[8]uint16{0, 2, 3, 0, 0, 6, 7, 0}, "0:2:3::6:7:0"},
		{[8]uint16{0, 0, 3, 0, 0, 6, 0, 0}, "::3:0:0:6:0:0"},
		{[8]uint16{1, 0, 0, 4, 0, 0, 7, 8}, "1::4:0:0:7:8"},
		{[8]uint16{0, 0, 3, 0, 0, 0, 7, 8}, "0:0:3::7:8"},
		{[8]uint16{0, 0, 0, 4, 0, 0, 0, 8}, "::4:0:0:0:8"},
		{[8]uint16{1, 0, 0, 0, 5, 0, 0, 0}, "1::5:0:0:0"},
		{[8]uint16{0, 0, 0, 4, 0, 0, 0, 0}, "0:0:0:4::"},
		{[8]uint16{0, 0, 0, 0, 5, 0, 0, 0}, "::5:0:0:0"},
		{[8]uint16{1, 0, 0, 0, 0, 0, 0, 0}, "1::"},
		{[8]uint16{1, 0, 0, 0, 0, 0, 0, 8}, "1::8"},
		{[8]uint16{5: 0xFFFF, 6: 0x0102, 7: 0x0304}, "::ffff:102:304"},
		{[8]uint16{6: 0x0102, 7: 0x0304}, "::102:304"},
		{[8]uint16{0x64, 0xFF9B, 0, 0, 0, 0, 0xC000, 0x0221}, "64:ff9b::c000:221"},
	} {
		if got := Format(c.a); got != c.want {
			t.Errorf("Format(%x) = %q, want %q", c.a, got, c.want)
		}
		checkParse(t, c.want, c.a)
		checkAddress(t, c.a)
	}
}

// P11.2: all choices of groups 0 and others.
func TestFormatOfPatterns(t *testing.T) {
	for _, values := range [][8]uint16{
		{1, 1, 1, 1, 1, 1, 1, 1},
		{1, 2, 3, 4, 5, 6, 7, 8},
		{0x10, 0x100, 0x1000, 0xF, 0xF0, 0xF00, 0xF000, 0xFFFF},
		{0x8000, 0xA, 0xABC, 0xABCD, 0xAB, 0x900, 0x0102, 0x0304},
	} {
		patterns(values, func(a [8]uint16) { checkAddress(t, a) })
	}
}

// P11.1: all choices of groups 0 with every way to write them.
func TestParseOfPatterns(t *testing.T) {
	patterns([8]uint16{1, 0x23, 0x456, 0x789A, 0xB, 0xCD, 0xEF0, 0xFFFF}, func(a [8]uint16) {
		var groups []string
		for _, group := range a {
			groups = append(groups, fmt.Sprintf("%x", group))
		}
		v4 := fmt.Sprintf("%d.%d.%d.%d", a[6]>>8, a[6]&0xFF, a[7]>>8, a[7]&0xFF)
		for _, all := range [][]string{groups, append(slices.Clone(groups[:6]), v4)} {
			checkParse(t, strings.Join(all, ":"), a)
			checkParse(t, strings.ToUpper(strings.Join(all, ":")), a)
			for start := range all {
				for end := start + 1; end <= len(all) && all[end-1] == "0"; end++ {
					checkParse(t, strings.Join(all[:start], ":")+"::"+strings.Join(all[end:], ":"), a)
				}
			}
		}
	})
}

// P11.1 and P11.2: random addresses, and texts that differ from theirs in a few bytes.
func TestRandom(t *testing.T) {
	r := rand.New(rand.NewSource(1))
	const alphabet = "0123456789abcdefABCDEF::::....gx "
	for range 50000 {
		var a [8]uint16
		for i := range a {
			if r.Intn(3) > 0 {
				a[i] = uint16(r.Intn(1<<16)) >> r.Intn(16)
			}
		}
		checkAddress(t, a)
		text := []byte(Format(a))
		for range 1 + r.Intn(3) {
			i := r.Intn(len(text) + 1)
			text = slices.Insert(text, i, alphabet[r.Intn(len(alphabet))])
			if r.Intn(2) == 0 {
				i = r.Intn(len(text))
				text = slices.Delete(text, i, i+1)
			}
		}
		check(t, string(text))
	}
}

// The examples of the chapter.
func TestExamples(t *testing.T) {
	checkParse(t, "::", [8]uint16{})
	if got := Format([8]uint16{}); got != "::" {
		t.Errorf("example 1: %q", got)
	}
	checkParse(t, "1:2:3:4:5:6:7::", [8]uint16{1, 2, 3, 4, 5, 6, 7, 0})
	checkParse(t, "::ffff:1.2.3.4", [8]uint16{0, 0, 0, 0, 0, 0xFFFF, 0x0102, 0x0304})
	for _, s := range []string{"1::2::3", ":1:2:3:4:5:6:7", "12345::"} {
		checkRejected(t, s)
	}
	if got := Format([8]uint16{0x2001, 0xDB8, 0, 0, 1, 0, 0, 1}); got != "2001:db8::1:0:0:1" {
		t.Errorf("example 3: %q", got)
	}
}
