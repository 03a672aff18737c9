package label

import (
	"math/rand"
	"regexp"
	"slices"
	"strings"
	"testing"
	"unicode/utf8"
	"unsafe"

	"hstsstore/api"
	"hstsstore/punycode"
)

// plain matches the labels with the length, the bytes and the ends of canonical ones.
var plain = regexp.MustCompile(`\A[a-z0-9_]([a-z0-9_-]{0,61}[a-z0-9_])?\z`)

// toUnicodeByDefinition returns the Unicode form of s, and whether s is canonical.
func toUnicodeByDefinition(s string) (string, bool) {
	if !plain.MatchString(s) {
		return "", false
	}
	if !strings.HasPrefix(s, "xn--") {
		return s, true
	}
	points, err := punycode.Decode(s[4:])
	if err != api.OK {
		return "", false
	}
	notBasic, upper := 0, 0
	var runes []rune
	for _, c := range points {
		if c >= 128 {
			notBasic++
		}
		if 'A' <= c && c <= 'Z' {
			upper++
		}
		runes = append(runes, rune(c))
	}
	if again, err := punycode.Encode(points); err != api.OK || again != s[4:] {
		return "", false
	}
	return string(runes), notBasic > 0 && upper == 0
}

// toASCIIByDefinition returns the result of ToASCII by the definition.
func toASCIIByDefinition(s string) (string, api.Errno) {
	runes := []rune(s)
	if string(runes) != s {
		return "", api.ErrSyntax
	}
	if len(runes) > 256 {
		return "", api.ErrLimit
	}
	var points []int
	for _, r := range runes {
		if strings.ContainsRune("ABCDEFGHIJKLMNOPQRSTUVWXYZ", r) {
			r += 32
		}
		points = append(points, int(r))
	}
	var result strings.Builder
	if len(points) == 0 || slices.Max(points) < 128 {
		for _, c := range points {
			result.WriteByte(byte(c))
		}
	} else {
		encoded, _ := punycode.Encode(points)
		result.WriteString("xn--" + encoded)
	}
	if _, ok := toUnicodeByDefinition(result.String()); !ok {
		return "", api.ErrHost
	}
	return result.String(), api.OK
}

// check compares the results of all functions for s with their definitions, and converts
// each result back.
func check(t *testing.T, s string) {
	t.Helper()
	wantText, ok := toUnicodeByDefinition(s)
	wantErr := api.OK
	if !ok {
		wantText, wantErr = "", api.ErrHost
	}
	if got := Valid(s); got != ok {
		t.Fatalf("Valid(%q) = %v", s, got)
	}
	text, err := ToUnicode(s)
	if text != wantText || err != wantErr {
		t.Fatalf("ToUnicode(%q) = %q, %d, want %q, %d", s, text, err, wantText, wantErr)
	}
	if ok {
		if back, err := ToASCII(text); back != s || err != api.OK {
			t.Fatalf("ToASCII(ToUnicode(%q)) = %q, %d", s, back, err)
		}
	}
	wantLabel, wantErr := toASCIIByDefinition(s)
	label, err := ToASCII(s)
	if label != wantLabel || err != wantErr {
		t.Fatalf("ToASCII(%q) = %q, %d, want %q, %d", s, label, err, wantLabel, wantErr)
	}
	if err == api.OK && !Valid(label) {
		t.Fatalf("ToASCII(%q) = %q, which is not valid", s, label)
	}
}

// checkPair checks that label is canonical and text its Unicode form.
func checkPair(t *testing.T, text, label string) {
	t.Helper()
	if !Valid(label) {
		t.Errorf("Valid(%q) = false", label)
	}
	if got, err := ToASCII(text); got != label || err != api.OK {
		t.Errorf("ToASCII(%q) = %q, %d, want %q", text, got, err, label)
	}
	if got, err := ToUnicode(label); got != text || err != api.OK {
		t.Errorf("ToUnicode(%q) = %q, %d, want %q", label, got, err, text)
	}
	check(t, text)
	check(t, label)
}

// checkNotCanonical checks that s is not a canonical label.
func checkNotCanonical(t *testing.T, s string) {
	t.Helper()
	if Valid(s) {
		t.Errorf("Valid(%q) = true", s)
	}
	if got, err := ToUnicode(s); got != "" || err != api.ErrHost {
		t.Errorf("ToUnicode(%q) = %q, %d", s, got, err)
	}
	check(t, s)
}

// checkRejected checks that ToASCII returns want for s.
func checkRejected(t *testing.T, s string, want api.Errno) {
	t.Helper()
	if got, err := ToASCII(s); got != "" || err != want {
		t.Errorf("ToASCII(%q) = %q, %d, want %d", s, got, err, want)
	}
	checkNotCanonical(t, s)
}

// texts calls f with all texts of at most n of the bytes.
func texts(bytes string, n int, f func(s string)) {
	f("")
	if n == 0 {
		return
	}
	for i := range len(bytes) {
		texts(bytes, n-1, func(s string) {
			f(s + bytes[i:i+1])
		})
	}
}

// P13.1 and P13.3: labels that are their own Unicode form.
func TestPlainLabels(t *testing.T) {
	for _, s := range []string{"a", "z", "0", "9", "_", "a-b", "a--b", "a---b", "_a_", "_-_", "0-0", "example", "_dmarc", "xn", "xn_", "xn-a", "xn-_-a", "xn_--a", "axn--z", "xm--z", "0xn--0", "in--z", "www"} {
		checkPair(t, s, s)
	}
	for _, s := range []string{"", "-", "--", "-a", "a-", "-a-", "-_", "_-", "A", "aB", "a.b", ".", "a.", ".a", "a b", " a", "a ", "a*", "*", "a/b", "a:b", "a@b", "a%", "a+b", "a~", "a\x00", "\x00", "a\n", "\na", "a\x7f", "\x80", "\xff", "\u00fc", "b\u00fccher", "\uff41"} {
		checkNotCanonical(t, s)
	}
}

// P13.1: every byte in each place of some labels, instead of another one and between two.
func TestEveryByte(t *testing.T) {
	for _, s := range []string{"", "a", "ab", "a-b", "_x9", "xn-a", "xn--tda", "xn--bcher-kva", "xn--80akhbyknj4f", "xn----eha", "\u00fc", "a\u00fcb", "\u4f8b\u3048", "x\U0001f4a9"} {
		for i := range len(s) + 1 {
			for b := range 256 {
				c := string([]byte{byte(b)})
				check(t, s[:i]+c+s[i:])
				if i < len(s) {
					check(t, s[:i]+c+s[i+1:])
				}
			}
			check(t, s[:i])
			check(t, s[i:])
		}
	}
}

// P13.1: the numbers of bytes from 0 to beyond the limit, and hyphens in each place.
func TestLengths(t *testing.T) {
	for n := range 70 {
		s := strings.Repeat("a", n)
		if 1 <= n && n <= 63 {
			checkPair(t, s, s)
		} else {
			checkRejected(t, s, api.ErrHost)
		}
		for i := range n {
			check(t, s[:i]+"-"+s[i+1:])
			check(t, s[:i]+"--"+s[i+1:])
			check(t, s[:i]+"_"+s[i+1:])
		}
	}
	for n := range 70 {
		before := strings.Repeat("a", n)
		encoded, _ := punycode.Encode(pointsOfText(before + "\u00fc"))
		if label := "xn--" + encoded; len(label) <= 63 {
			checkPair(t, before+"\u00fc", label)
		} else {
			checkRejected(t, before+"\u00fc", api.ErrHost)
			checkNotCanonical(t, label)
		}
	}
	// The encoding of equal code points takes one byte for most of them.
	for n := 1; n < 70; n++ {
		text := strings.Repeat("\u4f8b", n)
		encoded, _ := punycode.Encode(pointsOfText(text))
		if label := "xn--" + encoded; len(label) <= 63 {
			checkPair(t, text, label)
		} else {
			checkRejected(t, text, api.ErrHost)
			checkNotCanonical(t, label)
		}
	}
	for _, n := range []int{64, 256, 257, 1020, 1021, 1024, 1025, 1 << 20} {
		checkNotCanonical(t, strings.Repeat("a", n))
		checkNotCanonical(t, "xn--"+strings.Repeat("a", n))
		checkNotCanonical(t, "xn--a-"+strings.Repeat("a", n))
		checkNotCanonical(t, strings.Repeat("-", n))
	}
}

func pointsOfText(s string) []int {
	var points []int
	for _, r := range s {
		points = append(points, int(r))
	}
	return points
}

// P13.1 and P13.2: encoded labels of 62, 63 and 64 bytes, the limit of which is MaxLabel.
func TestLongestEncodedLabels(t *testing.T) {
	before := strings.Repeat("a", 54)
	checkPair(t, before+"\u00fc", "xn--"+before+"-ovf")
	checkPair(t, "a"+before+"\u00fc", "xn--a"+before+"-8yf")
	checkRejected(t, "aa"+before+"\u00fc", api.ErrHost)
	checkNotCanonical(t, "xn--aa"+before+"-t2f")
}

// P13.1: labels that begin with xn-- and whose rest is not proper.
func TestNotProper(t *testing.T) {
	for _, rest := range []string{
		"z", "zz", "9", "99999999", "a-99999999", "dn32ga9", // the last number does not end
		"-", "-tda", "a_b", "tda_", "_tda", "ab-kv_", // a byte is no digit
		"999999999999", "b-999999999999", // a number is too large
		"ib9b", "q49b", "zy0c", "en32g", // not a code point: three surrogates, and 0x110000
		"", "ab-", "tda-", "a-", "--", "_-", // no code point is not basic
		"bcher-KVA", "Bcher-kva", "TDA", "BCHER-KVA", "tdA", "Tda", // upper-case letters
		"b.cher-kva", "b cher-kva", "b\u00fccher-kva", "bcher\x80-kva", "tda\x00", // other bytes
	} {
		checkNotCanonical(t, "xn--"+rest)
	}
	// Only the prefix in lower case is one, but no label contains upper-case letters.
	for _, s := range []string{"XN--TDA", "Xn--tda", "xN--tda", "xn--tdA"} {
		checkNotCanonical(t, s)
	}
	// The same rests behind something that is not quite the prefix.
	for _, s := range []string{"xn-z", "xn_-z", "yn--z", "xm--z", "axn--z", "x--z", "n--z"} {
		checkPair(t, s, s)
	}
}

// The term proper, also for texts that follow the prefix in no label that has the bytes and
// the ends of a canonical one.
func TestProper(t *testing.T) {
	for _, rest := range []string{"tda", "bcher-kva", "--eha", "a", "b@[`{-wta24dla", "a.b-tsc"} {
		points, err := punycode.Decode(rest)
		if got, ok := properPoints(rest); !slices.Equal(got, points) || !ok || err != api.OK {
			t.Errorf("properPoints(%q) = %x, %v, want %x", rest, got, ok, points)
		}
	}
	for _, rest := range []string{
		"-", "z", "tda.", "ib9b", // Decode does not accept it
		"", "a-", "ab-", "--", "\x7f-", "a\x7f-", // no code point is not basic
		"Bcher-kva", "bcheR-kva", "A-eha", "Z-eha", "aM-yka", // upper-case letters
		"bcher-KVA", "bcher-kvA", "TDA", "tdA", "A", // not what Encode returns
	} {
		if points, ok := properPoints(rest); points != nil || ok {
			t.Errorf("properPoints(%q) = %x, %v", rest, points, ok)
		}
	}
}

// P13.1 to P13.3: all short texts of a few bytes, alone and behind the prefix.
func TestShortTexts(t *testing.T) {
	texts("az09_-AZ.\x80\xc3", 4, func(s string) { check(t, s) })
	texts("ab9-", 7, func(s string) { check(t, s) })
	texts("xXnN-", 7, func(s string) { check(t, s) })
	texts("azAZ09_-", 4, func(s string) { check(t, "xn--"+s) })
	texts("ak9-", 7, func(s string) { check(t, "xn--"+s) })
	texts("ak9-", 5, func(s string) { check(t, "xn--b-"+s) })
	for a := range 256 {
		for b := range 256 {
			check(t, string([]byte{byte(a), byte(b)}))
			check(t, string([]byte{'x', 'n', '-', '-', byte(a), byte(b)}))
		}
	}
}

// P13.2 and P13.3: labels whose encoding is known.
func TestKnownLabels(t *testing.T) {
	for _, pair := range [][2]string{
		{"\u00fc", "xn--tda"},
		{"b\u00fccher", "xn--bcher-kva"},
		{"\u00df", "xn--zca"},
		{"fa\u00df", "xn--fa-hia"},
		{"\u2603", "xn--n3h"},
		{"\U0001f4a9", "xn--ls8h"},
		{"\u4f8b\u3048", "xn--r8jz45g"},
		{"\u0438\u0441\u043f\u044b\u0442\u0430\u043d\u0438\u0435", "xn--80akhbyknj4f"},
		{"\u4e2d\u56fd", "xn--fiqs8s"},
		{"\u0645\u0635\u0631", "xn--wgbh1c"},
		{"\ud55c\uad6d", "xn--3e0b707e"},
		{"\u03b5\u03bb", "xn--qxam"},
		{"\u00fc\u00fc", "xn--tdaa"},
		{"a_\u00fc", "xn--a_-yka"},
		{"0\u00fc", "xn--0-eha"},
		// Hyphens at the ends of the Unicode form, and the prefix in it.
		{"-\u00fc", "xn----eha"},
		{"\u00fc-", "xn----dha"},
		{"-\u00fc-", "xn-----xka"},
		{"xn--\u00fc", "xn--xn---3ra"},
		{"x\u00fcn--", "xn--xn---0ra"},
		// The borders of the code points.
		{"\u0080", "xn--a"},
		{"\ud7ff", "xn--hb9b"},
		{"\ue000", "xn--0y0c"},
		{"\ufffd", "xn--zn7c"},
		{"\U0010ffff", "xn--dn32g"},
	} {
		checkPair(t, pair[0], pair[1])
	}
}

// P13.2: no code points are changed but ASCII upper-case letters.
func TestUnchangedPoints(t *testing.T) {
	for _, pair := range [][2]string{
		{"\u00dc", "xn--wca"},          // a letter with a lower-case form
		{"\u0130", "xn--bfa"},          // one whose lower-case form begins with i
		{"\u212a", "xn--62g"},          // one whose lower-case form is k
		{"\uff21", "xn--ph7c"},         // a wide A
		{"\u3002", "xn--r6j"},          // a dot of another script
		{"a\u3002b", "xn--ab-r13a"},    // the same
		{"\u00ad", "xn--kba"},          // a soft hyphen
		{"a\u0308", "xn--a-ccb"},       // a letter with a mark behind it
		{"\u00e4", "xn--4ca"},          // the two as one
		{"\ufeff", "xn--qg7c"},         // a byte order mark
		{"i\u0307", "xn--i-9bb"},       // what \u0130 is in lower case
		{"a\u00fc_-0", "xn--a_-0-0ra"}, // all that ASCII labels contain
	} {
		checkPair(t, pair[0], pair[1])
	}
}

// P13.2: each ASCII upper-case letter is replaced, and no other ASCII byte.
func TestUpperCase(t *testing.T) {
	for upper := 'A'; upper <= 'Z'; upper++ {
		lower := upper - 'A' + 'a'
		for _, rest := range []string{"", "x", "\u00fc", "\u4f8b\u3048"} {
			want, _ := ToASCII(string(lower) + rest)
			if got, err := ToASCII(string(upper) + rest); got != want || got == "" || err != api.OK {
				t.Errorf("ToASCII(%q) = %q, %d, want %q", string(upper)+rest, got, err, want)
			}
			check(t, string(upper)+rest)
			check(t, rest+string(upper))
		}
	}
	for _, pair := range [][2]string{
		{"ABC", "abc"}, {"A-B_9", "a-b_9"}, {"XN-A", "xn-a"},
		{"XN--BCHER-KVA", "xn--bcher-kva"}, {"Xn--Tda", "xn--tda"}, {"xN--A", "xn--a"},
		{"B\u00fccher", "xn--bcher-kva"}, {"B\u00dcCHER", "xn--bcher-2pa"}, {"XN--\u00fc", "xn--xn---3ra"},
	} {
		if got, err := ToASCII(pair[0]); got != pair[1] || err != api.OK {
			t.Errorf("ToASCII(%q) = %q, %d, want %q", pair[0], got, err, pair[1])
		}
		check(t, pair[0])
	}
	for b := byte(0); b < 128; b++ {
		check(t, "a"+string(rune(b))+"b")
		check(t, "a"+string(rune(b))+"\u00fc")
		check(t, "\u00fc"+string(rune(b)))
	}
}

// P13.2: texts whose result would not be canonical.
func TestErrHost(t *testing.T) {
	for _, s := range []string{"", "-", "-a", "a-", "-A", "A-", "xn--", "XN--", "xn--z", "XN--Z", "xn--ab-", "xn---", "a b", "a.b", "a%62", "a/\u00fc", "a.\u00fc", "\u00fc.", ".\u00fc", " \u00fc", "\u00fc\x00", "\x7f\u00fc", "@\u00fc", "[\u00fc", "`\u00fc", "{\u00fc"} {
		checkRejected(t, s, api.ErrHost)
	}
}

// P13.2: texts that are not valid UTF-8.
func TestErrSyntax(t *testing.T) {
	for _, bad := range []string{
		"\x80", "\xbf", "\xc0", "\xff", "\xfe", "\xf8", // bytes that begin no code point
		"\xc3", "\xe2", "\xe2\x98", "\xf0", "\xf0\x9f", "\xf0\x9f\x92", // not complete
		"\xc0\x80", "\xc1\xbf", "\xe0\x80\x80", "\xe0\x9f\xbf", "\xf0\x80\x80\x80", "\xf0\x8f\xbf\xbf", // too long
		"\xed\xa0\x80", "\xed\xbf\xbf", // surrogates
		"\xf4\x90\x80\x80", "\xf7\xbf\xbf\xbf", // beyond the greatest code point
		"\xc3\x28", "\xe2\x28\xa1", "\xc3\xbc\xbc", // other bytes among those of a code point
	} {
		for _, around := range []string{"", "a", "\u00fc", "\ufffd", "-", ".", "xn--z", strings.Repeat("a", 256), strings.Repeat("\u00fc", 300)} {
			checkRejected(t, bad+around, api.ErrSyntax)
			checkRejected(t, around+bad, api.ErrSyntax)
			checkRejected(t, around+bad+around, api.ErrSyntax)
		}
	}
}

// P13.2: numbers of code points around the limit, which counts no bytes.
func TestErrLimit(t *testing.T) {
	for _, c := range []string{"a", "A", "-", ".", "\x00", "\u00fc", "\u4f8b", "\U0001f4a9"} {
		for _, n := range []int{255, 256} {
			checkRejected(t, strings.Repeat(c, n), api.ErrHost)
			checkRejected(t, strings.Repeat(c, n-1)+"\u00fc", api.ErrHost)
			checkRejected(t, "xn--"+strings.Repeat(c, n-4), api.ErrHost)
		}
		for _, n := range []int{257, 258, 1000, 1024, 1025, 100000} {
			checkRejected(t, strings.Repeat(c, n), api.ErrLimit)
			checkRejected(t, strings.Repeat(c, n-1)+"\u00fc", api.ErrLimit)
			checkRejected(t, "xn--"+strings.Repeat(c, n-4), api.ErrLimit)
			checkRejected(t, strings.Repeat(c, n)+"\x80", api.ErrSyntax)
			checkRejected(t, "\x80"+strings.Repeat(c, n), api.ErrSyntax)
		}
	}
}

// P13.2 and P13.3: every code point, alone and between letters.
func TestEveryPoint(t *testing.T) {
	for r := range utf8.MaxRune + 1 {
		if !utf8.ValidRune(r) {
			continue
		}
		text := string(r)
		want, wantErr := toASCIIByDefinition(text)
		label, err := ToASCII(text)
		if label != want || err != wantErr || r >= 128 && err != api.OK {
			t.Fatalf("ToASCII(%q) = %q, %d, want %q, %d", text, label, err, want, wantErr)
		}
		if r >= 128 {
			if back, err := ToUnicode(label); back != text || err != api.OK {
				t.Fatalf("ToUnicode(%q) = %q, %d, want %q", label, back, err, text)
			}
		}
		if r < 0x3000 || r%97 == 0 {
			check(t, "a"+text+"b")
			check(t, text+"-"+text)
		}
	}
}

// P13.1 to P13.3: random texts, and the labels that they lead to with a byte changed.
func TestRandomTexts(t *testing.T) {
	r := rand.New(rand.NewSource(13))
	kinds := []func() rune{
		func() rune { return rune(r.Intn(128)) },
		func() rune { return rune('a' + r.Intn(26)) },
		func() rune { return rune('A' + r.Intn(26)) },
		func() rune { return rune("-_0"[r.Intn(3)]) },
		func() rune { return rune(128 + r.Intn(256)) },
		func() rune { return rune(0x4E00 + r.Intn(0x5000)) },
		func() rune { return rune(r.Intn(utf8.MaxRune + 1)) }, // a surrogate becomes U+FFFD
	}
	canonical := 0
	for range 40000 {
		var runes []rune
		for range r.Intn(25) {
			runes = append(runes, kinds[min(r.Intn(40), len(kinds)-1)%(1+r.Intn(len(kinds)))]())
		}
		check(t, string(runes))
		label, err := ToASCII(string(runes))
		if err != api.OK {
			continue
		}
		canonical++
		check(t, label)
		check(t, strings.ToUpper(label))
		b := []byte(label)
		b[r.Intn(len(b))] = "abyz0189-_AZ"[r.Intn(12)]
		check(t, string(b))
	}
	if canonical < 4000 {
		t.Errorf("only %d texts have a canonical label", canonical)
	}
}

// P13.2 and P13.3: the results share no memory with the arguments.
func TestMemory(t *testing.T) {
	for _, s := range []string{"abc", "a-b_0", "xn--bcher-kva", "xn-a"} {
		bytes := []byte(s)
		argument := unsafe.String(&bytes[0], len(bytes))
		label, err := ToASCII(argument)
		if label != s || err != api.OK {
			t.Fatalf("ToASCII(%q) = %q, %d", s, label, err)
		}
		text, err := ToUnicode(argument)
		if err != api.OK {
			t.Fatalf("ToUnicode(%q) returned %d", s, err)
		}
		want := strings.Clone(text)
		clear(bytes)
		if label != s {
			t.Errorf("ToASCII(%q) shares memory with its argument: %q", s, label)
		}
		if text != want {
			t.Errorf("ToUnicode(%q) shares memory with its argument: %q", s, text)
		}
	}
}

// The examples of the chapter.
func TestExamples(t *testing.T) {
	if got, err := ToASCII("B\u00fccher"); got != "xn--bcher-kva" || err != api.OK {
		t.Errorf("ToASCII = %q, %d", got, err)
	}
	checkRejected(t, "-a", api.ErrHost)
	checkRejected(t, "", api.ErrHost)
	checkRejected(t, "xn--z", api.ErrHost)
	checkPair(t, "b\u00fccher", "xn--bcher-kva")
}
