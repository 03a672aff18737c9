package host

import (
	"encoding/hex"
	"math"
	"math/rand"
	"regexp"
	"slices"
	"strings"
	"testing"
	"unsafe"

	"hstsstore/api"
	"hstsstore/ipv4"
	"hstsstore/ipv6"
	"hstsstore/label"
)

// escape matches a percent sign, and the two digits behind it if they are there.
var escape = regexp.MustCompile(`%([0-9A-Fa-f]{2})?`)

// canonicalByDefinition reports whether name is a canonical domain name.
func canonicalByDefinition(name string) bool {
	for _, part := range strings.Split(name, ".") {
		if !label.Valid(part) {
			return false
		}
	}
	return len(name) <= 253 && !ipv4.Numeric(name)
}

// supersByDefinition returns the superdomains of name, if it is canonical.
func supersByDefinition(name string) []string {
	if !canonicalByDefinition(name) {
		return nil
	}
	var supers []string
	labels := strings.Split(name, ".")
	for removed := 1; removed < len(labels); removed++ {
		if super := strings.Join(labels[removed:], "."); canonicalByDefinition(super) {
			supers = append(supers, super)
		}
	}
	return supers
}

// validByDefinition reports whether h is valid.
func validByDefinition(h api.Host) bool {
	switch h.Kind {
	case 1:
		return canonicalByDefinition(h.Name) && h.V4 == 0 && h.V6 == [8]uint16{}
	case 2:
		return h.Name == "" && h.V6 == [8]uint16{}
	case 3:
		return h.Name == "" && h.V4 == 0
	}
	return false
}

// parseByDefinition returns the result of Parse by the definition.
func parseByDefinition(raw string) (api.Host, api.Errno) {
	if len(raw) > 1024 {
		return api.Host{}, api.ErrLimit
	}
	if strings.HasPrefix(raw, "[") {
		v6, ok := ipv6.Parse(strings.TrimSuffix(raw[1:], "]"))
		if !ok || !strings.HasSuffix(raw, "]") {
			return api.Host{}, api.ErrHost
		}
		return api.Host{Kind: api.HostIPv6, V6: v6}, api.OK
	}
	if slices.Contains(escape.FindAllString(raw, -1), "%") {
		return api.Host{}, api.ErrHost
	}
	text := escape.ReplaceAllStringFunc(raw, func(e string) string {
		b, _ := hex.DecodeString(e[1:])
		return string(b)
	})
	if strings.HasSuffix(text, ".") {
		text = text[:len(text)-1]
	}
	if ipv4.Numeric(text) {
		v4, ok := ipv4.ParseNumbers(text)
		if !ok {
			return api.Host{}, api.ErrHost
		}
		return api.Host{Kind: api.HostIPv4, V4: v4}, api.OK
	}
	parts := strings.Split(text, ".")
	for i := range parts {
		canonical, err := label.ToASCII(parts[i])
		if err != api.OK {
			return api.Host{}, err
		}
		parts[i] = canonical
	}
	name := strings.Join(parts, ".")
	if len(name) > 253 {
		return api.Host{}, api.ErrLimit
	}
	if ipv4.Numeric(name) {
		return api.Host{}, api.ErrHost
	}
	return api.Host{Kind: api.HostDomain, Name: name}, api.OK
}

// checkParse compares the result of Parse with its definition, and converts it back.
func checkParse(t *testing.T, raw string) {
	t.Helper()
	want, wantErr := parseByDefinition(raw)
	h, err := Parse(raw)
	if h != want || err != wantErr {
		t.Fatalf("Parse(%q) = %v, %d, want %v, %d", raw, h, err, want, wantErr)
	}
	if err == api.OK {
		checkValid(t, h)
	}
}

// checkValid checks that h is valid and that its text is read as h.
func checkValid(t *testing.T, h api.Host) {
	t.Helper()
	if !Valid(h) || !validByDefinition(h) {
		t.Fatalf("Valid(%v) = %v", h, Valid(h))
	}
	text := Format(h)
	if back, err := Parse(text); back != h || err != api.OK {
		t.Fatalf("Parse(Format(%v)) = %v, %d, for the text %q", h, back, err, text)
	}
}

// checkNotValid checks that h is not valid.
func checkNotValid(t *testing.T, h api.Host) {
	t.Helper()
	if Valid(h) || validByDefinition(h) {
		t.Fatalf("Valid(%v) = %v", h, Valid(h))
	}
	if text := Format(h); text != "" {
		t.Fatalf("Format(%v) = %q", h, text)
	}
}

// checkName compares the results of the functions for name with their definitions.
func checkName(t *testing.T, name string) {
	t.Helper()
	canonical := canonicalByDefinition(name)
	if got := ValidName(name); got != canonical {
		t.Fatalf("ValidName(%q) = %v", name, got)
	}
	if got := Valid(api.Host{Kind: api.HostDomain, Name: name}); got != canonical {
		t.Fatalf("Valid of the domain %q = %v", name, got)
	}
	want := 0
	if canonical {
		want = 1 + strings.Count(name, ".")
		checkValid(t, api.Host{Kind: api.HostDomain, Name: name})
	}
	if got := Labels(name); got != want {
		t.Fatalf("Labels(%q) = %d, want %d", name, got, want)
	}
	supers := slices.Collect(Supers(name))
	if !slices.Equal(supers, supersByDefinition(name)) {
		t.Fatalf("Supers(%q) yields %q", name, supers)
	}
	for _, super := range supers {
		checkCovers(t, super, name)
		checkCovers(t, name, super)
	}
	checkCovers(t, name, name)
}

// checkCovers compares the result of Covers with its definition.
func checkCovers(t *testing.T, super, name string) {
	t.Helper()
	want := canonicalByDefinition(super) && canonicalByDefinition(name) &&
		(super == name || slices.Contains(supersByDefinition(name), super))
	if got := Covers(super, name); got != want {
		t.Fatalf("Covers(%q, %q) = %v", super, name, got)
	}
}

// checkHost checks that Parse returns want for raw.
func checkHost(t *testing.T, raw string, want api.Host) {
	t.Helper()
	if got, err := Parse(raw); got != want || err != api.OK {
		t.Errorf("Parse(%q) = %v, %d, want %v", raw, got, err, want)
	}
	checkParse(t, raw)
}

// checkDomain checks that Parse returns the domain with this name for raw.
func checkDomain(t *testing.T, raw, name string) {
	t.Helper()
	checkHost(t, raw, api.Host{Kind: api.HostDomain, Name: name})
	checkName(t, name)
}

// checkIPv4 checks that Parse returns the address v4 for raw.
func checkIPv4(t *testing.T, raw string, v4 uint32) {
	t.Helper()
	checkHost(t, raw, api.Host{Kind: api.HostIPv4, V4: v4})
}

// checkIPv6 checks that Parse returns the address v6 for raw.
func checkIPv6(t *testing.T, raw string, v6 [8]uint16) {
	t.Helper()
	checkHost(t, raw, api.Host{Kind: api.HostIPv6, V6: v6})
}

// checkRejected checks that Parse returns the error want for raw.
func checkRejected(t *testing.T, raw string, want api.Errno) {
	t.Helper()
	if got, err := Parse(raw); got != (api.Host{}) || err != want {
		t.Errorf("Parse(%q) = %v, %d, want %d", raw, got, err, want)
	}
	checkParse(t, raw)
}

// texts calls f with all texts of at most n of the fragments.
func texts(fragments []string, n int, f func(s string)) {
	f("")
	if n == 0 {
		return
	}
	for _, fragment := range fragments {
		texts(fragments, n-1, func(s string) {
			f(s + fragment)
		})
	}
}

// escaped returns s with each byte written with a percent sign.
func escaped(s string) string {
	var text strings.Builder
	for i := range len(s) {
		text.WriteString("%" + hex.EncodeToString([]byte{s[i]}))
	}
	return text.String()
}

// ofLength returns a canonical domain name of n bytes.
func ofLength(n int) string {
	name := strings.Repeat(strings.Repeat("a", 62)+".", n/63) + strings.Repeat("b", n%63)
	if strings.HasSuffix(name, ".") {
		return name[:len(name)-2] + "cc"
	}
	return name
}

// P14.1: domains, whose labels become canonical, and the dot at their end.
func TestDomains(t *testing.T) {
	for _, pair := range [][2]string{
		{"a", "a"}, {"a.", "a"}, {"A", "a"}, {"example.com", "example.com"}, {"ExAmple.COM.", "example.com"},
		{"WWW.Example.COM.", "www.example.com"}, {"a_b.c", "a_b.c"}, {"_dmarc.A-B.c--d", "_dmarc.a-b.c--d"},
		{"localhost", "localhost"}, {"x.LocalHost", "x.localhost"},
		{"1.a", "1.a"}, {"0x1.a", "0x1.a"}, {"1.2.3.4.a", "1.2.3.4.a"}, {"1.2.3.4a", "1.2.3.4a"}, {"a.1b", "a.1b"},
		{"0xg", "0xg"}, {"a.0xg", "a.0xg"}, {"a.0y1", "a.0y1"}, {"a.1_", "a.1_"}, {"a.1-1", "a.1-1"}, {"x0", "x0"}, {"a.xff", "a.xff"},
		{"b\u00fccher.example", "xn--bcher-kva.example"}, {"B\u00dccher.Example.", "xn--bcher-2pa.example"},
		{"xn--bcher-kva.example", "xn--bcher-kva.example"}, {"XN--BCHER-KVA.\u00fc", "xn--bcher-kva.xn--tda"},
		{"\u4f8b\u3048.\u00fc.a", "xn--r8jz45g.xn--tda.a"}, {"a\u3002b", "xn--ab-r13a"}, {"\uff11.\uff10", "xn--8g7c.xn--7g7c"},
		{"\u0661", "xn--9hb"}, {"\u00b2", "xn--pba"},
	} {
		checkDomain(t, pair[0], pair[1])
		checkDomain(t, escaped(pair[0]), pair[1])
		checkDomain(t, strings.ToUpper(escaped(pair[0])), pair[1])
		checkDomain(t, strings.ReplaceAll(pair[0], ".", "%2e"), pair[1])
		checkDomain(t, strings.ReplaceAll(pair[0], ".", "%2E"), pair[1])
	}
	for _, raw := range []string{"", ".", "..", "...", "a..", "a...", ".a", "..a", "a..b", "a.b..", ".a.", "-", "-a.b", "a-.b", "a.-b", "a.b-", "a b", "a.b ", " a", "a/b", "a:80", "u@a", "a?b", "a#b", "a]", "a[b", "::1", "::1]", "a*", "*.a", "a\x00", "\x7f", "a,b", "xn--", "xn--z.com", "a.xn--z", "xn--ab-.com", "a.\u00fc/", "%2e", "%2E.", "a.%2e"} {
		checkRejected(t, raw, api.ErrHost)
	}
}

// P14.1: numeric texts, which are addresses or not valid.
func TestNumericTexts(t *testing.T) {
	for _, c := range []struct {
		raw string
		v4  uint32
	}{
		{"0", 0}, {"1", 1}, {"256", 0x100}, {"4294967295", 0xFFFFFFFF}, {"1.2.3.4", 0x01020304}, {"1.2.3.4.", 0x01020304},
		{"127.1", 0x7F000001}, {"127.1.", 0x7F000001}, {"1.2.3", 0x01020003}, {"1.65535", 0x0100FFFF}, {"255.255.255.255", 0xFFFFFFFF},
		{"0x7f.1", 0x7F000001}, {"0X7F.1", 0x7F000001}, {"0x7f.0.0.01.", 0x7F000001}, {"0x", 0}, {"0X", 0}, {"1.0x", 0x01000000},
		{"017700000001", 0x7F000001}, {"0x7F000001", 0x7F000001}, {"0x000000000000000000000000001", 1}, {"00000000000000000000000001", 1},
		// A second dot is one at the end of a text whose own one was removed, and
		// ipv4 disregards it.
		{"1.2.3.4..", 0x01020304}, {"1..", 1}, {"0x..", 0},
	} {
		checkIPv4(t, c.raw, c.v4)
		checkIPv4(t, escaped(c.raw), c.v4)
		checkIPv4(t, strings.ReplaceAll(c.raw, ".", "%2E"), c.v4)
	}
	checkIPv4(t, "%31%32%37.0.0.1", 0x7F000001)
	checkIPv4(t, "127.0.0.%31", 0x7F000001)
	checkIPv4(t, "0%587f.1", 0x7F000001)
	for _, raw := range []string{"1.2.3.256", "256.1", "1.2.3.4.5", "4294967296", "99999999999999999999999999", "0x100000000", "a.1", "a.0x", "a.0xff", "a.0X1", "a.09", "09", "1.2.3.08", "a.1.", "a.1..", "1.b.3", ".1", "..1", "1..2", "1...", "1.2.3.4...", "0xg.1", "-.1", "-1.1", "\u00fc.1", "\xff.1", "1.2.3.4.0x", "_.0", "a b.1", strings.Repeat("a", 300) + ".1", strings.Repeat("a.", 200) + "1"} {
		checkRejected(t, raw, api.ErrHost)
	}
}

// P14.1: texts that begin with an opening bracket.
func TestBrackets(t *testing.T) {
	for _, c := range []struct {
		raw string
		v6  [8]uint16
	}{
		{"[::]", [8]uint16{}}, {"[::1]", [8]uint16{7: 1}}, {"[1::]", [8]uint16{1}}, {"[1:2:3:4:5:6:7:8]", [8]uint16{1, 2, 3, 4, 5, 6, 7, 8}},
		{"[::1.2.3.4]", [8]uint16{6: 0x102, 7: 0x304}}, {"[::FFFF:1.2.3.4]", [8]uint16{5: 0xFFFF, 6: 0x102, 7: 0x304}},
		{"[2001:DB8::0001:0:0:1]", [8]uint16{0x2001, 0xDB8, 0, 0, 1, 0, 0, 1}}, {"[0:0:0:0:0:0:0:0]", [8]uint16{}},
		{"[ffff:ffff:ffff:ffff:ffff:ffff:255.255.255.255]", [8]uint16{0xFFFF, 0xFFFF, 0xFFFF, 0xFFFF, 0xFFFF, 0xFFFF, 0xFFFF, 0xFFFF}},
	} {
		checkIPv6(t, c.raw, c.v6)
		// Nothing but a bracket begins the text of an address, and nothing follows it.
		for _, raw := range []string{c.raw + ".", c.raw + " ", c.raw + "]", c.raw + "[", c.raw + c.raw, "[" + c.raw, "[" + c.raw + "]", "[" + c.raw[1:len(c.raw)-1], c.raw[1:], c.raw[1 : len(c.raw)-1], " " + c.raw, "." + c.raw, "%5b" + c.raw[1:], c.raw[:len(c.raw)-1] + "%5d", escaped(c.raw), "[" + escaped(c.raw[1:len(c.raw)-1]) + "]", "a" + c.raw, c.raw + "a"} {
			checkRejected(t, raw, api.ErrHost)
		}
	}
	for _, raw := range []string{"[", "[]", "[[", "[]]", "[[]]", "[.]", "[a]", "[a.b]", "[1.2.3.4]", "[1]", "[0x1]", "[:]", "[:::]", "[::1", "[::1 ]", "[ ::1]", "[::g]", "[fe80::1%25eth0]", "[fe80::1%eth0]", "[%3a%3a1]", "[%]", "[%", "[\xff]", "[\xff", "[1:2:3:4:5:6:7]", "[1:2:3:4:5:6:7:8:9]", "[::1]:80", "[::1]%2e"} {
		checkRejected(t, raw, api.ErrHost)
	}
}

// P14.1: every byte, written with a percent sign, is what it stands for.
func TestEveryEscape(t *testing.T) {
	for b := range 256 {
		c := string([]byte{byte(b)})
		lower := "%" + hex.EncodeToString([]byte{byte(b)})
		for _, around := range [][2]string{{"a", "b"}, {"", ""}, {"", "a"}, {"a", ""}, {"1.2.3.", ""}, {"1", ".3"}, {"\u00fc", "a"}, {"xn-", "-tda"}, {"\xc3", ""}, {"a.", ".b"}, {"a.\xe4\xbe", ".b"}} {
			for _, e := range []string{lower, strings.ToUpper(lower), lower[:2] + strings.ToUpper(lower[2:]), strings.ToUpper(lower[:2]) + lower[2:]} {
				checkParse(t, around[0]+e+around[1])
				plain := around[0] + c + around[1]
				if b == '%' || strings.HasPrefix(plain, "[") {
					continue // here the byte itself is not one like others
				}
				got, err := Parse(around[0] + e + around[1])
				if want, wantErr := Parse(plain); got != want || err != wantErr {
					t.Fatalf("Parse(%q) = %v, %d, want %v, %d", around[0]+e+around[1], got, err, want, wantErr)
				}
			}
		}
	}
	// What a replaced percent sign is followed by is not replaced again.
	for _, raw := range []string{"%2541", "a%2541", "%25%34%31", "%25", "%2525", "%252541", "a.%25", "%5b::1]", "%5B::1%5D"} {
		checkRejected(t, raw, api.ErrHost)
	}
	checkDomain(t, "%41%42%43", "abc")
	checkDomain(t, "%61b%63.%64e%66", "abc.def")
	checkDomain(t, "%62%C3%BCcher.Example", "xn--bcher-kva.example")
	checkDomain(t, "%62%c3\xbccher.Example", "xn--bcher-kva.example")
}

// P14.1: percent signs without two digits behind them, which come before errors in labels.
func TestMissingDigits(t *testing.T) {
	bad := []string{"%", "%%", "%%41", "%4%31", "%4", "%a", "%F", "%%%", "%4.", "%.4", "%2%351", "%%34%31"}
	for b := range 256 {
		if c := string([]byte{byte(b)}); !strings.Contains("0123456789abcdefABCDEF", c) {
			bad = append(bad, "%"+c, "%4"+c, "%"+c+"1", "%"+c+"%41")
		}
	}
	for _, s := range bad {
		checkRejected(t, s, api.ErrHost)
		for _, around := range []string{"a", "-", "a.", ".", "\xff", "\xff.", "1.2.3.", "%41", "\xff%41", strings.Repeat("a", 300), strings.Repeat("a.", 200)} {
			checkRejected(t, around+s, api.ErrHost)
			checkRejected(t, s+"-"+around, api.ErrHost)
			checkRejected(t, around+s+"-"+around, api.ErrHost)
		}
	}
}

// P14.1: the first error of a label, from the left, comes before those of the name.
func TestLabelErrors(t *testing.T) {
	points := strings.Repeat("a", 257)
	for _, c := range []struct {
		raw string
		err api.Errno
	}{
		{"\xff", api.ErrSyntax}, {"a%ff", api.ErrSyntax}, {"a\xff.-", api.ErrSyntax}, {"a.\xff", api.ErrSyntax}, {"\xff.", api.ErrSyntax}, {"\xc3.\xbc", api.ErrSyntax}, {"%c3.%bc", api.ErrSyntax}, {"%ed%a0%80", api.ErrSyntax}, {"-\xff", api.ErrSyntax},
		{"-.a\xff", api.ErrHost}, {".\xff", api.ErrHost}, {"a..\xff", api.ErrHost}, {"xn--z.\xff", api.ErrHost}, {"\xff..a", api.ErrSyntax},
		{points, api.ErrLimit}, {points + ".-", api.ErrLimit}, {points + ".\xff", api.ErrLimit}, {points + "\xff", api.ErrSyntax}, {"-." + points, api.ErrHost}, {"\xff." + points, api.ErrSyntax}, {"a." + points, api.ErrLimit}, {points[1:], api.ErrHost}, {points[1:] + "." + points, api.ErrHost}, {points + "." + points[1:], api.ErrLimit},
		{strings.Repeat("\u00fc", 257), api.ErrLimit}, {strings.Repeat("\u00fc", 256), api.ErrHost}, {strings.Repeat("a", 64), api.ErrHost},
		// Names that are too long besides.
		{ofLength(254) + ".-", api.ErrHost}, {ofLength(254) + ".\xff", api.ErrSyntax}, {"-." + ofLength(254), api.ErrHost}, {ofLength(254) + "..", api.ErrHost}, {"." + ofLength(254), api.ErrHost}, {ofLength(254) + ".xn--z", api.ErrHost}, {ofLength(500), api.ErrLimit},
		{ofLength(254) + ".1", api.ErrHost},
	} {
		checkRejected(t, c.raw, c.err)
	}
}

// P14.1: the limit for raw, which comes before everything else.
func TestMaxHost(t *testing.T) {
	// Labels of many bytes whose canonical forms are short.
	longest := escaped(strings.Repeat("\U0001f4a9", 50)) + "." + escaped(strings.Repeat("\U0001f4a9", 35)) + ".ab"
	if len(longest) != 1024 {
		t.Fatalf("the text has %d bytes", len(longest))
	}
	first, _ := label.ToASCII(strings.Repeat("\U0001f4a9", 50))
	second, _ := label.ToASCII(strings.Repeat("\U0001f4a9", 35))
	checkDomain(t, longest, first+"."+second+".ab")
	checkDomain(t, longest[:1023]+".", first+"."+second+".a")
	checkRejected(t, longest+"c", api.ErrLimit)
	checkRejected(t, longest+".", api.ErrLimit)

	checkIPv4(t, strings.Repeat("0", 1024), 0)
	checkIPv4(t, strings.Repeat("0", 1023)+".", 0)
	checkIPv4(t, strings.Repeat("0", 1023)+"7", 7)
	checkRejected(t, strings.Repeat("0", 1023)+"9", api.ErrHost)
	for _, s := range []string{"0", "a", "-", ".", "%", "%41", "\xff", "a.", "\u00fc", "[", "]"} {
		for _, n := range []int{1025, 1026, 2000, 1 << 20} {
			raw := strings.Repeat(s, n)
			checkRejected(t, raw, api.ErrLimit)
			checkRejected(t, raw[:1025], api.ErrLimit)
			checkParse(t, raw[:1024])
			checkRejected(t, "["+raw[:1024], api.ErrLimit)
			checkRejected(t, "["+raw[:1023]+"]", api.ErrLimit)
			checkRejected(t, "["+raw[:1022]+"]", api.ErrHost)
		}
	}
}

// P14.1 to P14.3: names around the limit of MaxDomain bytes.
func TestMaxDomain(t *testing.T) {
	for n := 1; n < 400; n++ {
		name := ofLength(n)
		if len(name) != n {
			t.Fatalf("the name has %d bytes, not %d", len(name), n)
		}
		checkName(t, name)
		checkName(t, name+".")
		if n <= 253 {
			checkDomain(t, name, name)
			checkDomain(t, name+".", name)
			checkDomain(t, strings.ToUpper(name), name)
			checkDomain(t, escaped(name), name)
			continue
		}
		checkRejected(t, name, api.ErrLimit)
		checkRejected(t, name+".", api.ErrLimit)
		checkNotValid(t, api.Host{Kind: api.HostDomain, Name: name})
		if 3*n <= 1024 {
			checkRejected(t, escaped(name), api.ErrLimit)
		}
	}
	// The bytes that count are those of the canonical forms.
	before := ofLength(253-len("xn--tda")-1) + "."
	checkDomain(t, before+"\u00fc", before+"xn--tda")
	checkRejected(t, "a"+before+"\u00fc", api.ErrLimit)
	checkRejected(t, "a."+before+"\u00fc", api.ErrLimit)
	short := strings.Repeat("\u4f8b", 40)
	encoded, _ := label.ToASCII(short)
	name := strings.Repeat(encoded+".", 253/(len(encoded)+1)) + "a"
	checkDomain(t, strings.Repeat(short+".", 253/(len(encoded)+1))+"a", name)
	for _, n := range []int{1000, 1 << 20} {
		for _, s := range []string{"a", ".", "a.", "-", "1", "1."} {
			checkName(t, strings.Repeat(s, n))
			checkName(t, strings.Repeat(s, n)+"a")
			checkNotValid(t, api.Host{Kind: api.HostDomain, Name: strings.Repeat(s, n) + "a"})
		}
	}
}

// P14.1: labels in canonical form that make a name which is not canonical.
func TestJoined(t *testing.T) {
	for _, labels := range [][]string{{"1"}, {"a", "1"}, {"a", "0x"}, {"a", "0xff"}, {"1", "2", "3", "4"}} {
		if h, err := joined(labels); h != (api.Host{}) || err != api.ErrHost {
			t.Errorf("joined(%q) = %v, %d", labels, h, err)
		}
	}
	long := strings.Split(ofLength(254), ".")
	for _, last := range []string{"a", "1"} {
		if h, err := joined(append(long, last)); h != (api.Host{}) || err != api.ErrLimit {
			t.Errorf("joined of a name that is too long and ends in %q = %v, %d", last, h, err)
		}
	}
	if h, err := joined([]string{"a", "b"}); h != (api.Host{Kind: api.HostDomain, Name: "a.b"}) || err != api.OK {
		t.Errorf("joined = %v, %d", h, err)
	}
}

// P14.1 to P14.3: all texts of a few fragments.
func TestShortTexts(t *testing.T) {
	check := func(s string) {
		checkParse(t, s)
		checkName(t, s)
	}
	texts([]string{"a", "B", "1", "0x", "-", ".", "%", "41", "%2e", "\u00fc", "\xc3"}, 4, check)
	texts([]string{"a", "1", "."}, 8, check)
	texts([]string{"0", "x", "f", "8", "."}, 6, check)
	texts([]string{"[", "]", "::", "1", ".", "%5b"}, 5, check)
	texts([]string{"%", "4", "1", "e", "."}, 6, check)
	texts([]string{"xn--", "tda", "a", "-", "."}, 6, check)
}

// P14.1 to P14.3: every byte in each place of some texts, instead of another one and
// between two.
func TestEveryByte(t *testing.T) {
	for _, s := range []string{"", "a", "a.b", "example.com", "xn--tda.a-b.c", "1.2.3.4", "a.0x", "[::1]", "[::1.2.3.4]", "%61.b", "\u00fc.a", "_a.b_", "a.b."} {
		for i := range len(s) + 1 {
			for b := range 256 {
				c := string([]byte{byte(b)})
				checkParse(t, s[:i]+c+s[i:])
				checkName(t, s[:i]+c+s[i:])
				if i < len(s) {
					checkParse(t, s[:i]+c+s[i+1:])
					checkName(t, s[:i]+c+s[i+1:])
				}
			}
			checkParse(t, s[:i])
			checkParse(t, s[i:])
		}
	}
}

// P14.2: texts of valid hosts.
func TestFormat(t *testing.T) {
	for _, c := range []struct {
		h    api.Host
		text string
	}{
		{api.Host{Kind: api.HostDomain, Name: "a"}, "a"},
		{api.Host{Kind: api.HostDomain, Name: "a.b-c.d_e"}, "a.b-c.d_e"},
		{api.Host{Kind: api.HostDomain, Name: "xn--bcher-kva.1.x"}, "xn--bcher-kva.1.x"},
		{api.Host{Kind: api.HostDomain, Name: ofLength(253)}, ofLength(253)},
		{api.Host{Kind: api.HostIPv4}, "0.0.0.0"},
		{api.Host{Kind: api.HostIPv4, V4: 0x7F000001}, "127.0.0.1"},
		{api.Host{Kind: api.HostIPv4, V4: 0xFFFFFFFF}, "255.255.255.255"},
		{api.Host{Kind: api.HostIPv6}, "[::]"},
		{api.Host{Kind: api.HostIPv6, V6: [8]uint16{7: 1}}, "[::1]"},
		{api.Host{Kind: api.HostIPv6, V6: [8]uint16{0x2001, 0xDB8, 0, 0, 1, 0, 0, 1}}, "[2001:db8::1:0:0:1]"},
		{api.Host{Kind: api.HostIPv6, V6: [8]uint16{5: 0xFFFF, 6: 0x102, 7: 0x304}}, "[::ffff:102:304]"},
		{api.Host{Kind: api.HostIPv6, V6: [8]uint16{1, 2, 3, 4, 5, 6, 7, 8}}, "[1:2:3:4:5:6:7:8]"},
	} {
		if got := Format(c.h); got != c.text {
			t.Errorf("Format(%v) = %q, want %q", c.h, got, c.text)
		}
		checkValid(t, c.h)
	}
}

// P14.2: hosts of every kind with every combination of other fields.
func TestValid(t *testing.T) {
	names := []string{"", "a", "a.b", "xn--tda", ofLength(253), ofLength(254), "A", "a.B", ".", "a.", ".a", "a..b", "-a", "a.b-", "1", "a.1", "0x", "a.0xf", "1.2.3.4", "::1", "[::1]", "a%41", "\u00fc", "\xff", "xn--z", "a b", "a\x00", "1.a", "0x1.a", "a.0xg"}
	for _, kind := range []int{math.MinInt, -1, 0, 1, 2, 3, 4, 5, 257, 1 << 32, 1<<32 + 1, math.MaxInt} {
		for _, name := range names {
			for _, v4 := range []uint32{0, 1, 0x7F000001, 0x80000000, 0xFFFFFFFF} {
				for _, v6 := range [][8]uint16{{}, {1}, {7: 1}, {3: 0x8000}, {5: 0xFFFF, 6: 0x102, 7: 0x304}} {
					h := api.Host{Kind: kind, Name: name, V4: v4, V6: v6}
					if validByDefinition(h) {
						checkValid(t, h)
					} else {
						checkNotValid(t, h)
					}
				}
			}
		}
	}
	checkNotValid(t, api.Host{})
	for group := range 8 {
		v6 := [8]uint16{}
		v6[group] = 1
		checkValid(t, api.Host{Kind: api.HostIPv6, V6: v6})
		checkNotValid(t, api.Host{Kind: api.HostIPv4, V4: 1, V6: v6})
		checkNotValid(t, api.Host{Kind: api.HostDomain, Name: "a", V6: v6})
	}
	for bit := range 32 {
		checkValid(t, api.Host{Kind: api.HostIPv4, V4: 1 << bit})
		checkNotValid(t, api.Host{Kind: api.HostIPv6, V4: 1 << bit})
		checkNotValid(t, api.Host{Kind: api.HostDomain, Name: "a", V4: 1 << bit})
	}
}

// P14.2 and P14.3: names that are canonical, and others.
func TestNames(t *testing.T) {
	for name, want := range map[string]int{
		"a": 1, "a.b": 2, "a.b.example.com": 4, "_.-": 0, "_._": 2, "1.a": 2, "1.2.3.4.a": 5, "0x.a": 2, "a.0xg": 2, "a.1b": 2, "xn--tda.x": 2, "x.xn--tda": 2, "localhost": 1,
		"": 0, ".": 0, "..": 0, "a.": 0, ".a": 0, "a..b": 0, "a.b.": 0, "..a": 0, "A": 0, "a.B": 0, "-a.b": 0, "a-.b": 0, "a.-": 0,
		"1": 0, "a.1": 0, "a.01": 0, "a.09": 0, "a.0x": 0, "a.0x1": 0, "a.0xff": 0, "1.2.3.4": 0, "a.1.": 0, "a.99999999999999999999": 0, "xn--z": 0, "a.xn--z": 0, "a.xn--z.b": 0, "\u00fc": 0, "\u00fc.a": 0, "\xff.a": 0, "a b": 0, "a%62": 0, "[::1]": 0,
		strings.Repeat("a", 63): 1, strings.Repeat("a", 64): 0, strings.Repeat("a", 63) + ".b": 2, strings.Repeat("a", 64) + ".b": 0, "b." + strings.Repeat("a", 63): 2, "b." + strings.Repeat("a", 64): 0,
		ofLength(253): 5, ofLength(254): 0,
	} {
		if got := Labels(name); got != want {
			t.Errorf("Labels(%q) = %d, want %d", name, got, want)
		}
		if got := ValidName(name); got != (want > 0) {
			t.Errorf("ValidName(%q) = %v", name, got)
		}
		checkName(t, name)
	}
	for n := 1; n < 140; n++ {
		name := strings.Repeat("a.", n-1) + "b"
		want := n
		if n > 127 {
			want = 0
		}
		if got := Labels(name); got != want {
			t.Errorf("Labels of %d labels = %d", n, got)
		}
		checkName(t, name)
	}
}

// P14.3: the superdomains in their order, and loops that end early or run again.
func TestSupers(t *testing.T) {
	for name, want := range map[string][]string{
		"com": nil, "a.com": {"com"}, "a.b.example.com": {"b.example.com", "example.com", "com"},
		"a.a.a": {"a.a", "a"}, "1.2.3.a": {"2.3.a", "3.a", "a"}, "xn--tda.0x.b": {"0x.b", "b"},
		"": nil, ".": nil, "a.": nil, "A.b.c": nil, "a..b": nil, "a.b.1": nil, "-.b.c": nil, "1.2.3.4": nil, ".a.b": nil,
	} {
		supers := Supers(name)
		for range 3 {
			if got := slices.Collect(supers); !slices.Equal(got, want) {
				t.Errorf("Supers(%q) yields %q, want %q", name, got, want)
			}
		}
		for stop := 1; stop <= len(want); stop++ {
			var got []string
			for super := range supers {
				got = append(got, super)
				if len(got) == stop {
					break
				}
			}
			if !slices.Equal(got, want[:stop]) {
				t.Errorf("the first %d that Supers(%q) yields are %q", stop, name, got)
			}
		}
		count := 0
		for outer := range supers {
			for inner := range supers {
				if (outer == inner) != (count/len(want) == count%len(want)) {
					t.Errorf("loops over Supers(%q) in one another meet %q and %q", name, outer, inner)
				}
				count++
			}
		}
		if count != len(want)*len(want) {
			t.Errorf("loops over Supers(%q) in one another meet %d pairs", name, count)
		}
	}
	calls := 0
	Supers("a.b.c.d")(func(string) bool {
		calls++
		return false
	})
	if calls != 1 {
		t.Errorf("Supers yields %d names to a loop that ends with the first one", calls)
	}
}

// P14.3: pairs of names, and of other strings.
func TestCovers(t *testing.T) {
	for _, c := range []struct {
		super, name string
		want        bool
	}{
		{"a.b", "a.b", true}, {"b", "a.b", true}, {"c", "a.b.c", true}, {"b.c", "a.b.c", true}, {"a.b.c", "a.b.c", true}, {"a", "a", true}, {"a", "a.a", true}, {"a.a", "a.a.a", true},
		{"a.b", "b", false}, {"a", "a.b", false}, {"b", "ab", false}, {"b.c", "ab.c", false}, {"b", "a.c", false}, {"a.c", "b.c", false}, {"a.c", "a.b.c", false}, {"a.a", "a", false},
		{"", "", false}, {"", "a", false}, {"a", "", false}, {"", "a.b", false}, {".", "a.", false}, {".b", "a.b", false}, {"b.", "a.b.", false}, {"b", "a.b.", false}, {"b.", "a.b", false},
		{"A", "A", false}, {"a", "A", false}, {"A", "a", false}, {"b", "A.b", false}, {"b", "-.b", false}, {"b", ".b", false}, {"b", "..b", false}, {"B", "a.B", false},
		{"1", "a.1", false}, {"1", "1", false}, {"a.1", "a.1", false}, {"3.4", "1.2.3.4", false}, {"1.2.3.4", "1.2.3.4", false}, {"0x", "a.0x", false}, {"1.a", "0.1.a", true},
		{"b.c", "xn--z.b.c", false}, {"xn--tda", "a.xn--tda", true}, {ofLength(253), ofLength(253), true}, {"b", "a." + ofLength(252) + ".b", false}, {ofLength(254), ofLength(254), false},
	} {
		if got := Covers(c.super, c.name); got != c.want {
			t.Errorf("Covers(%q, %q) = %v", c.super, c.name, got)
		}
		checkCovers(t, c.super, c.name)
	}
	var all []string
	texts([]string{"a", "b", "."}, 5, func(s string) { all = append(all, s) })
	texts([]string{"1", "-", "a", "."}, 3, func(s string) { all = append(all, s) })
	for _, super := range all {
		for _, name := range all {
			checkCovers(t, super, name)
		}
	}
	huge := strings.Repeat("a", 1<<20)
	checkCovers(t, huge, "a")
	checkCovers(t, "a", "b."+huge)
	checkCovers(t, huge, huge)
}

// P14.3: Covers is an order of the canonical names.
func TestCoversIsAnOrder(t *testing.T) {
	var names []string
	texts([]string{"a", "b", "."}, 5, func(s string) {
		if ValidName(s) && !slices.Contains(names, s) {
			names = append(names, s)
		}
	})
	for _, a := range names {
		if !Covers(a, a) {
			t.Errorf("%q does not cover itself", a)
		}
		for _, b := range names {
			if a != b && Covers(a, b) && Covers(b, a) {
				t.Errorf("%q and %q cover each other", a, b)
			}
			for _, c := range names {
				if Covers(a, b) && Covers(b, c) && !Covers(a, c) {
					t.Errorf("%q covers %q, which covers %q, but not this one", a, b, c)
				}
			}
		}
	}
}

// P14.1 to P14.3: random texts.
func TestRandomTexts(t *testing.T) {
	r := rand.New(rand.NewSource(14))
	fragments := []string{"a", "b", "com", "Example", "x-y", "_", "-", "0", "1", "9", "255", "256", "0x", "0xFF", "08", "xn--", "xn--tda", "\u00fc", "\u4f8b", "\U0001f4a9", "\xff", "\xc3", "%", "%41", "%2e", "%C3%BC", "%ff", "%2", "[", "]", "::", ":1", " ", "/"}
	domains, addresses := 0, 0
	for range 100000 {
		var text strings.Builder
		usual := 1 + r.Intn(len(fragments))
		for range r.Intn(8) {
			text.WriteString(fragments[r.Intn(usual)])
			if r.Intn(2) == 0 {
				text.WriteByte('.')
			}
		}
		checkParse(t, text.String())
		checkName(t, text.String())
		h, err := Parse(text.String())
		if err != api.OK {
			continue
		}
		if h.Kind == api.HostDomain {
			domains++
			checkName(t, h.Name)
		} else {
			addresses++
		}
	}
	if domains < 10000 || addresses < 300 {
		t.Errorf("only %d texts are domains and %d are addresses", domains, addresses)
	}
	for range 20000 {
		checkValid(t, api.Host{Kind: api.HostIPv4, V4: r.Uint32()})
		var v6 [8]uint16
		for i := range v6 {
			v6[i] = uint16(r.Intn(1<<16) >> r.Intn(17))
		}
		checkValid(t, api.Host{Kind: api.HostIPv6, V6: v6})
	}
}

// P14.1 to P14.3: the results share no memory with the arguments, nor with one another.
func TestMemory(t *testing.T) {
	bytes := []byte("a.example.com")
	argument := unsafe.String(&bytes[0], len(bytes))
	h, _ := Parse(argument)
	text := Format(api.Host{Kind: api.HostDomain, Name: argument})
	supers := Supers(argument)
	var names []string
	for super := range supers {
		names = append(names, super)
	}
	clear(bytes)
	if h.Name != "a.example.com" {
		t.Errorf("the result of Parse became %q", h.Name)
	}
	if text != "a.example.com" {
		t.Errorf("the result of Format became %q", text)
	}
	want := []string{"example.com", "com"}
	if !slices.Equal(names, want) {
		t.Errorf("the results of Supers became %q", names)
	}
	again := slices.Collect(supers)
	if !slices.Equal(again, want) {
		t.Errorf("Supers kept its argument: %q", again)
	}
	// A name with its bytes overwritten leaves the others as they are.
	clear(unsafe.Slice(unsafe.StringData(names[0]), len(names[0])))
	if names[1] != want[1] || !slices.Equal(again, want) || !slices.Equal(slices.Collect(supers), want) {
		t.Errorf("the names that Supers yields share memory: %q, %q", names, again)
	}
}

// The examples of the chapter.
func TestExamples(t *testing.T) {
	checkDomain(t, "ExAmple.COM.", "example.com")
	checkRejected(t, "a..b", api.ErrHost)
	checkRejected(t, "", api.ErrHost)
	checkIPv4(t, "0x7f.1", 0x7F000001)
	checkIPv4(t, "%31%32%37.0.0.1", 0x7F000001)
	if got := slices.Collect(Supers("a.b.example.com")); !slices.Equal(got, []string{"b.example.com", "example.com", "com"}) {
		t.Errorf("Supers yields %q", got)
	}
}
