package ascii

import (
	"regexp"
	"slices"
	"strings"
	"testing"
)

// class returns the bytes of a class, so that a test can compare all 256 bytes at once.
func class(is func(byte) bool) string {
	var members []byte
	for i := range 256 {
		if is(byte(i)) {
			members = append(members, byte(i))
		}
	}
	return string(members)
}

// texts calls check with every string of up to length bytes from the alphabet.
func texts(alphabet string, length int, check func(string)) {
	var extend func(string)
	extend = func(s string) {
		check(s)
		if len(s) == length {
			return
		}
		for i := range len(alphabet) {
			extend(s + alphabet[i:i+1])
		}
	}
	extend("")
}

// allBytes is a string of the bytes 0 to 255.
func allBytes() string {
	return class(func(byte) bool { return true })
}

// P1.1
func TestClassesOfAllBytes(t *testing.T) {
	const token = "!#$%&'*+-." + "0123456789" + "ABCDEFGHIJKLMNOPQRSTUVWXYZ" + "^_`" + "abcdefghijklmnopqrstuvwxyz" + "|~"
	for _, c := range []struct {
		name string
		is   func(byte) bool
		want string
	}{
		{"IsToken", IsToken, token},
		{"IsBlank", IsBlank, "\x09\x20"},
		{"IsSpace", IsSpace, "\x09\x0a\x0c\x0d\x20"},
	} {
		if got := class(c.is); got != c.want {
			t.Errorf("%s holds for %q, want %q", c.name, got, c.want)
		}
	}
}

// P1.1
func TestClassesExcludeHighBytes(t *testing.T) {
	for i := 0x80; i <= 0xff; i++ {
		b := byte(i)
		if IsToken(b) || IsBlank(b) || IsSpace(b) || Digits(string([]byte{b})) {
			t.Errorf("byte %#x belongs to a class", b)
		}
	}
}

// P1.1
func TestSeparatorsAreNoTokenCharacters(t *testing.T) {
	const separators = "\"(),/:;<=>?@[\\]{}\x00\x0b\x1f\x7f"
	for i := range len(separators) {
		if IsToken(separators[i]) {
			t.Errorf("%q is a token character", separators[i])
		}
	}
}

// P1.2
func TestLowerOfAllBytes(t *testing.T) {
	for i := range 256 {
		want := byte(i)
		if at := strings.IndexByte("ABCDEFGHIJKLMNOPQRSTUVWXYZ", want); at >= 0 {
			want = "abcdefghijklmnopqrstuvwxyz"[at]
		}
		if got := Lower(string([]byte{byte(i)})); got != string([]byte{want}) {
			t.Errorf("Lower of the byte %#x is %q, want %q", i, got, want)
		}
	}
}

// P1.2
func TestLower(t *testing.T) {
	for _, c := range []struct{ s, want string }{
		{"", ""},
		{"Strict-Transport-Security", "strict-transport-security"},
		{"already lower", "already lower"},
		{"ÄB-c", "Äb-c"},
		{"\u212a\u0130", "\u212a\u0130"},     // Unicode would lower both to ASCII letters
		{"\xffA\x80Z\x00", "\xffa\x80z\x00"}, // not UTF-8
		{"A\xc3", "a\xc3"},                   // an incomplete rune at the end
		{strings.Repeat("Ab", 5000), strings.Repeat("ab", 5000)},
	} {
		if got := Lower(c.s); got != c.want {
			t.Errorf("Lower(%q) = %q, want %q", c.s, got, c.want)
		}
	}
}

// P1.2
func TestLowerIsIdempotent(t *testing.T) {
	once := Lower(allBytes())
	if twice := Lower(once); twice != once {
		t.Errorf("Lower changes %q to %q", once, twice)
	}
}

// P1.2
func TestEqualFold(t *testing.T) {
	for _, c := range []struct {
		a, b string
		want bool
	}{
		{"", "", true},
		{"", "a", false},
		{"", "\x00", false},
		{"Max-Age", "mAX-aGE", true},
		{"max-age", "max-ages", false},
		{"ab", "ba", false},
		{"xa", "xb", false},
		{"K", "\u212a", false},
		{"\u00c4", "\u00e4", false},
		{"\xff\x80", "\xff\x80", true},
		{"\xc1", "\xe1", false},
	} {
		if got := EqualFold(c.a, c.b); got != c.want {
			t.Errorf("EqualFold(%q, %q) = %v", c.a, c.b, got)
		}
		if got := EqualFold(c.b, c.a); got != c.want {
			t.Errorf("EqualFold(%q, %q) = %v", c.b, c.a, got)
		}
	}
}

// P1.2
func TestEqualFoldOfAllPairsOfBytes(t *testing.T) {
	for i := range 256 {
		for j := range 256 {
			a, b := string([]byte{byte(i)}), string([]byte{byte(j)})
			if got := EqualFold(a, b); got != (Lower(a) == Lower(b)) {
				t.Errorf("EqualFold(%q, %q) = %v", a, b, got)
			}
		}
	}
}

// P1.3
func TestTrim(t *testing.T) {
	for _, c := range []struct{ s, want string }{
		{"", ""},
		{" ", ""},
		{"\t \t ", ""},
		{"a", "a"},
		{" \ta b ", "a b"},
		{"a \t b", "a \t b"},
		{" a", "a"},
		{"a\t", "a"},
		{" \ra\n ", "\ra\n"},
		{"\fa\v", "\fa\v"},
		{" \xa0\x85 ", "\xa0\x85"}, // bytes that Latin-1 counts as spaces
		{"\u00a0 a \u2003", "\u00a0 a \u2003"},
		{"\x00 ", "\x00"},
	} {
		if got := Trim(c.s); got != c.want {
			t.Errorf("Trim(%q) = %q, want %q", c.s, got, c.want)
		}
	}
}

// P1.3
func TestTrimOfShortTexts(t *testing.T) {
	texts(" \t\na\xff", 5, func(s string) {
		if got, want := Trim(s), strings.Trim(s, " \t"); got != want {
			t.Errorf("Trim(%q) = %q, want %q", s, got, want)
		}
	})
}

// P1.3
func TestWords(t *testing.T) {
	for _, c := range []struct {
		s    string
		want []string
	}{
		{"", nil},
		{" \t\n\f\r", nil},
		{" a\n\tb ", []string{"a", "b"}},
		{"one", []string{"one"}},
		{"one two", []string{"one", "two"}},
		{"b a b", []string{"b", "a", "b"}},
		{"a\tb\nc\fd\re f", []string{"a", "b", "c", "d", "e", "f"}},
		{"a\v\x00b\x1fc", []string{"a\v\x00b\x1fc"}},
		{"\xa0\x85 \u2003", []string{"\xa0\x85", "\u2003"}},
		{"tail\r\n", []string{"tail"}},
	} {
		if got := Words(c.s); !slices.Equal(got, c.want) {
			t.Errorf("Words(%q) = %q, want %q", c.s, got, c.want)
		}
	}
}

// P1.3
func TestWordsOfShortTexts(t *testing.T) {
	word := regexp.MustCompile("[^ \t\n\f\r]+")
	texts(" \n\rab", 6, func(s string) {
		got := Words(s)
		if want := word.FindAllString(s, -1); !slices.Equal(got, want) {
			t.Errorf("Words(%q) = %q, want %q", s, got, want)
		}
		if again := Words(strings.Join(got, " ")); !slices.Equal(again, got) {
			t.Errorf("the joined words of %q are %q, want %q", s, again, got)
		}
	})
}

// P1.3, and the rule that results share no memory.
func TestWordsAreNewlyAllocated(t *testing.T) {
	const s = "a b c"
	first := Words(s)
	first[0] = "x"
	first = append(first[:1], "y", "z")
	if second := Words(s); !slices.Equal(second, []string{"a", "b", "c"}) {
		t.Errorf("after changing the result %q, Words(%q) = %q", first, s, second)
	}
}

// P1.3
func TestDigits(t *testing.T) {
	for i := range 256 {
		s := string([]byte{byte(i)})
		want := strings.Contains("0123456789", s)
		if got := Digits(s); got != want {
			t.Errorf("Digits(%q) = %v", s, got)
		}
		for _, mixed := range []string{s + "1", "1" + s, "1" + s + "1"} {
			if got := Digits(mixed); got != want {
				t.Errorf("Digits(%q) = %v", mixed, got)
			}
		}
	}
	for s, want := range map[string]bool{
		"":                        false,
		"0":                       true,
		"00":                      true,
		"0123456789":              true,
		strings.Repeat("9", 1000): true,
		"+1":                      false,
		"-1":                      false,
		"1.0":                     false,
		"1e3":                     false,
		"0x1":                     false,
		" 1":                      false,
		"1 ":                      false,
		"\u0661":                  false, // a digit of Unicode
		"\uff11":                  false,
	} {
		if got := Digits(s); got != want {
			t.Errorf("Digits(%q) = %v", s, got)
		}
	}
}

// The examples of the chapter.
func TestExamples(t *testing.T) {
	if got := Lower("ÄB-c"); got != "Äb-c" {
		t.Errorf("example 1: %q", got)
	}
	if got := Trim(" \ta b "); got != "a b" {
		t.Errorf("example 2: %q", got)
	}
	if got := Words(" a\n\tb "); !slices.Equal(got, []string{"a", "b"}) {
		t.Errorf("example 3: %q", got)
	}
	if IsToken('"') {
		t.Error("example 4: the quotation mark is a token character")
	}
}
