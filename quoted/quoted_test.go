package quoted

import (
	"math"
	"math/rand"
	"regexp"
	"strings"
	"testing"
	"unsafe"

	"hstsstore/api"
)

// The definitions of the chapter, for text in which each byte is written as the code point with its number.
var (
	tokens    = regexp.MustCompile("^[!#$%&'*+\\-.^_`|~0-9A-Za-z]*")
	whole     = regexp.MustCompile(`(?s)^"((?:` + element + `)*)"`)
	beginning = regexp.MustCompile(`(?s)^"(?:` + element + `)*\\?$`)
	escapes   = regexp.MustCompile(`(?s)\\(.)`)
	values    = regexp.MustCompile(`^[\t\x20\x21\x22\x23-\x5B\x5C\x5D-\x7E\x{80}-\x{FF}]*$`)
)

const element = `[\t\x20\x21\x23-\x5B\x5D-\x7E\x{80}-\x{FF}]|\\[\t\x20-\x7E\x{80}-\x{FF}]`

// points returns s with each byte written as the code point with its number.
func points(s string) string {
	var text []rune
	for _, b := range []byte(s) {
		text = append(text, rune(b))
	}
	return string(text)
}

// octets is the inverse of points.
func octets(text string) string {
	var s []byte
	for _, r := range text {
		s = append(s, byte(r))
	}
	return string(s)
}

// inRange reports whether i is in the range 0 to len(s).
func inRange(s string, i int) bool { return 0 <= i && i <= len(s) }

// tokenByDefinition returns the result of Token by the definition.
func tokenByDefinition(s string, i int) int {
	if !inRange(s, i) {
		return i
	}
	return i + len(tokens.FindString(points(s[i:])))
}

// parseByDefinition returns the results of Parse by the definition.
func parseByDefinition(s string, i int) (string, int, api.Errno) {
	if !inRange(s, i) {
		return "", 0, api.ErrRange
	}
	text := points(s[i:])
	if found := whole.FindStringSubmatch(text); found != nil {
		return octets(escapes.ReplaceAllString(found[1], "$1")), i + len(octets(found[0])), api.OK
	}
	if beginning.MatchString(text) {
		return "", 0, api.ErrTruncated
	}
	return "", 0, api.ErrSyntax
}

// quoteByDefinition returns the results of Quote by the definition.
func quoteByDefinition(v string) (string, api.Errno) {
	if !values.MatchString(points(v)) {
		return "", api.ErrSyntax
	}
	return `"` + strings.NewReplacer(`"`, `\"`, `\`, `\\`).Replace(v) + `"`, api.OK
}

// checkToken compares the results of IsToken and Token with their definitions.
func checkToken(t *testing.T, s string, i int) {
	t.Helper()
	if got, want := Token(s, i), tokenByDefinition(s, i); got != want {
		t.Fatalf("Token(%q, %d) = %d, want %d", s, i, got, want)
	}
	if got, want := IsToken(s), s != "" && tokenByDefinition(s, 0) == len(s); got != want {
		t.Fatalf("IsToken(%q) = %v, want %v", s, got, want)
	}
}

// checkParse compares the results of Parse with their definition.
func checkParse(t *testing.T, s string, i int) {
	t.Helper()
	want, wantEnd, wantErr := parseByDefinition(s, i)
	if got, end, err := Parse(s, i); got != want || end != wantEnd || err != wantErr {
		t.Fatalf("Parse(%q, %d) = %q, %d, %d, want %q, %d, %d", s, i, got, end, err, want, wantEnd, wantErr)
	}
}

// checkQuote compares the results of Quote with their definition, and reads the text back.
func checkQuote(t *testing.T, v string) {
	t.Helper()
	want, wantErr := quoteByDefinition(v)
	got, err := Quote(v)
	if got != want || err != wantErr {
		t.Fatalf("Quote(%q) = %q, %d, want %q, %d", v, got, err, want, wantErr)
	}
	if err != api.OK {
		return
	}
	for _, before := range []string{"", "a", `"`, `\`, "\x00"} {
		for _, behind := range []string{"", "a", `"`, `\`, `""`, "\x00", "\x7F", ";"} {
			back, end, err := Parse(before+got+behind, len(before))
			if back != v || end != len(before)+len(got) || err != api.OK {
				t.Fatalf("Parse(%q, %d) = %q, %d, %d, want %q", before+got+behind, len(before), back, end, err, v)
			}
		}
	}
}

// texts calls f with the empty text and all texts of up to n fragments.
func texts(fragments []string, n int, f func(s string)) {
	f("")
	if n == 0 {
		return
	}
	for _, fragment := range fragments {
		texts(fragments, n-1, func(s string) { f(s + fragment) })
	}
}

// indexes calls f with the indexes of s, with those around them, and with the extreme ones.
func indexes(s string, f func(i int)) {
	for i := -2; i <= len(s)+2; i++ {
		f(i)
	}
	for _, i := range []int{math.MinInt, math.MinInt + 1, -1 << 31, 1<<31 - 1, 1 << 31, 1 << 40, math.MaxInt - 1, math.MaxInt} {
		f(i)
	}
}

// P17.1: text of header fields, and the edges of tokens.
func TestTokenOfOrdinaryText(t *testing.T) {
	for _, c := range []struct {
		s       string
		i       int
		end     int
		isToken bool
	}{
		{"max-age", 0, 7, true},
		{"max-age", 3, 7, true},
		{"max-age", 7, 7, true},
		{"max-age", 8, 8, true},
		{"max-age", -1, -1, true},
		{"max-age=1", 0, 7, false},
		{"max-age=1", 7, 7, false},
		{"max-age=1", 8, 9, false},
		{"=1", 0, 0, false},
		{" a", 0, 0, false},
		{" a", 1, 2, false},
		{"a ", 0, 1, false},
		{"a b c", 2, 3, false},
		{`"a"`, 0, 0, false},
		{`"a"`, 1, 2, false},
		{"a;b", 0, 1, false},
		{"B\u00FCcher", 0, 1, false},
		{"!#$%&'*+-.^_`|~", 0, 15, true},
		{"0123456789", 0, 10, true},
		{"a\x00", 0, 1, false},
		{"", 0, 0, false},
		{"", 1, 1, false},
		{"", -1, -1, false},
	} {
		if end, is := Token(c.s, c.i), IsToken(c.s); end != c.end || is != c.isToken {
			t.Errorf("Token(%q, %d) = %d, want %d; IsToken: %v, want %v", c.s, c.i, end, c.end, is, c.isToken)
		}
	}
}

// P17.1: every byte, alone and in each place of a token.
func TestTokenWithEachByte(t *testing.T) {
	for b := range 256 {
		c := string([]byte{byte(b)})
		for _, s := range []string{c, c + "ab", "a" + c + "b", "ab" + c, c + c, "a=" + c} {
			indexes(s, func(i int) { checkToken(t, s, i) })
		}
	}
}

// P17.1: all short texts, at each index.
func TestTokenOfShortTexts(t *testing.T) {
	texts([]string{"a", "Z", "-", "=", `"`, " ", "\xE9", "\x00"}, 4, func(s string) {
		indexes(s, func(i int) { checkToken(t, s, i) })
	})
}

// P17.2: ordinary quoted strings, the edges of the elements, and what is none.
func TestParseOfOrdinaryText(t *testing.T) {
	for _, c := range []struct {
		s    string
		i    int
		want string
		end  int
		err  api.Errno
	}{
		{`""`, 0, "", 2, api.OK},
		{`"a"`, 0, "a", 3, api.OK},
		{`max-age="60"; x`, 8, "60", 12, api.OK},
		{`"a""b"`, 0, "a", 3, api.OK},
		{`"a""b"`, 3, "b", 6, api.OK},
		{`"a""b"`, 2, "", 4, api.OK},
		{`"\""`, 0, `"`, 4, api.OK},
		{`"\\"`, 0, `\`, 4, api.OK},
		{`"\\""`, 0, `\`, 4, api.OK},
		{`"\\\""`, 0, `\"`, 6, api.OK},
		{`"\a\n"`, 0, "an", 6, api.OK},
		{`"a"` + "\x00", 0, "a", 3, api.OK},
		{"\"\t !#[]~\x80\xFF\"", 0, "\t !#[]~\x80\xFF", 11, api.OK},
		{"\"\\\t\\ \\~\\\x80\\\xFF\"", 0, "\t ~\x80\xFF", 12, api.OK},
		{"\"\u00FC\"", 0, "\u00FC", 4, api.OK},
		{"\"\\\u00FC\"", 0, "\u00FC", 5, api.OK},
		{`a`, 0, "", 0, api.ErrSyntax},
		{`a"b"`, 0, "", 0, api.ErrSyntax},
		{`'a'`, 0, "", 0, api.ErrSyntax},
		{`\"a"`, 0, "", 0, api.ErrSyntax},
		{` "a"`, 0, "", 0, api.ErrSyntax},
		{`"a"`, 1, "", 0, api.ErrSyntax},
		{`"a"`, 3, "", 0, api.ErrSyntax},
		{``, 0, "", 0, api.ErrSyntax},
		{"\"\x08\"", 0, "", 0, api.ErrSyntax},
		{"\"a\nb\"", 0, "", 0, api.ErrSyntax},
		{"\"a\\\nb\"", 0, "", 0, api.ErrSyntax},
		{"\"a\r\n b\"", 0, "", 0, api.ErrSyntax},
		{"\"\x1F\"", 0, "", 0, api.ErrSyntax},
		{"\"\x7F\"", 0, "", 0, api.ErrSyntax},
		{"\"\\\x7F\"", 0, "", 0, api.ErrSyntax},
		{"\"\\\x00\"", 0, "", 0, api.ErrSyntax},
		{`"`, 0, "", 0, api.ErrTruncated},
		{`"a`, 0, "", 0, api.ErrTruncated},
		{`"a"`, 2, "", 0, api.ErrTruncated},
		{`"\`, 0, "", 0, api.ErrTruncated},
		{`"\"`, 0, "", 0, api.ErrTruncated},
		{`"\\\"`, 0, "", 0, api.ErrTruncated},
		{`"a"`, 4, "", 0, api.ErrRange},
		{`"a"`, -1, "", 0, api.ErrRange},
		{``, 1, "", 0, api.ErrRange},
		{``, -1, "", 0, api.ErrRange},
		{`"a"`, math.MaxInt, "", 0, api.ErrRange},
		{`"a"`, math.MinInt, "", 0, api.ErrRange},
	} {
		if got, end, err := Parse(c.s, c.i); got != c.want || end != c.end || err != c.err {
			t.Errorf("Parse(%q, %d) = %q, %d, %d, want %q, %d, %d", c.s, c.i, got, end, err, c.want, c.end, c.err)
		}
	}
}

// P17.2: of several errors the first one applies.
func TestParseOrderOfErrors(t *testing.T) {
	for _, c := range []struct {
		s   string
		i   int
		err api.Errno
	}{
		{"\x00", 2, api.ErrRange},               // before: no double quote
		{"\x00", -1, api.ErrRange},              // before: no double quote
		{`"a`, 3, api.ErrRange},                 // before: the end
		{`a"`, 0, api.ErrSyntax},                // before: the end
		{"\"a\x00", 0, api.ErrSyntax},           // before: the end
		{"\"a\\\x00", 0, api.ErrSyntax},         // before: the end
		{"\"a\\\x00\\", 0, api.ErrSyntax},       // before: the end
		{"\"a\\\"\x00", 0, api.ErrSyntax},       // before: the end, because the quote is escaped
		{"\"a\\\\\"\x00", 0, api.OK},            // the quote is not escaped
		{"\"a\x00\"", 0, api.ErrSyntax},         // a whole string but for one byte
		{"\"a\"\x00", 2, api.ErrSyntax},         // from the second quote on
		{"\"a\"\\", 2, api.ErrTruncated},        // from the second quote on
		{"\"\\\\\\\\\\", 0, api.ErrTruncated},   // the end is behind a backslash that escapes
		{"\"\\\\\\\\\\\"", 0, api.ErrTruncated}, // the last quote is escaped
	} {
		if _, _, err := Parse(c.s, c.i); err != c.err {
			t.Errorf("Parse(%q, %d) = %d, want %d", c.s, c.i, err, c.err)
		}
	}
}

// P17.2: every byte in each place, and every byte behind every byte.
func TestParseWithEachByte(t *testing.T) {
	for b := range 256 {
		c := string([]byte{byte(b)})
		for _, s := range []string{c, c + `a"`, `"` + c, `"` + c + `"`, `"a` + c + `b"`, `"\` + c, `"\` + c + `"`, `"\\` + c + `"`, `"a"` + c} {
			indexes(s, func(i int) { checkParse(t, s, i) })
		}
		for second := range 256 {
			pair := c + string([]byte{byte(second)})
			checkParse(t, `"`+pair+`"`, 0)
			checkParse(t, pair+`"`, 0)
			checkParse(t, `"`+pair, 0)
		}
	}
}

// P17.2: all short texts, at each index.
func TestParseOfShortTexts(t *testing.T) {
	texts([]string{`"`, `\`, "a", "\t", "\xFF", "\x7F"}, 5, func(s string) {
		indexes(s, func(i int) { checkParse(t, s, i) })
	})
	texts([]string{`"`, `\`, "a"}, 9, func(s string) { checkParse(t, `"`+s, 0) })
}

// P17.2: quoted strings may be long.
func TestParseOfLongText(t *testing.T) {
	const n = 1 << 20
	long := strings.Repeat("a", n)
	if got, end, err := Parse(`"`+long+`"`, 0); got != long || end != n+2 || err != api.OK {
		t.Errorf("%d bytes, %d, %d", len(got), end, err)
	}
	if got, end, err := Parse(`"`+strings.Repeat(`\a`, n)+`"`, 0); got != long || end != 2*n+2 || err != api.OK {
		t.Errorf("%d bytes, %d, %d", len(got), end, err)
	}
	if got, end, err := Parse(`"`+long, 0); got != "" || end != 0 || err != api.ErrTruncated {
		t.Errorf("%d bytes, %d, %d", len(got), end, err)
	}
	if got, end, err := Parse(`"`+long+"\n\"", 0); got != "" || end != 0 || err != api.ErrSyntax {
		t.Errorf("%d bytes, %d, %d", len(got), end, err)
	}
}

// P17.3: ordinary values, and values with bytes that no element stands for.
func TestQuoteOfOrdinaryValues(t *testing.T) {
	for _, c := range []struct {
		v    string
		want string
		err  api.Errno
	}{
		{"", `""`, api.OK},
		{"a", `"a"`, api.OK},
		{"a b; c", `"a b; c"`, api.OK},
		{`"`, `"\""`, api.OK},
		{`\`, `"\\"`, api.OK},
		{`\"`, `"\\\""`, api.OK},
		{`"a\b"`, `"\"a\\b\""`, api.OK},
		{"\t !#[]~\x80\xFF", "\"\t !#[]~\x80\xFF\"", api.OK},
		{"\u00FC", "\"\u00FC\"", api.OK},
		{"'", `"'"`, api.OK},
		{"\x00", "", api.ErrSyntax},
		{"\x08", "", api.ErrSyntax},
		{"\n", "", api.ErrSyntax},
		{"a\r\nb", "", api.ErrSyntax},
		{"\x1F", "", api.ErrSyntax},
		{"\x7F", "", api.ErrSyntax},
		{"abc\x7F", "", api.ErrSyntax},
		{"\x7Fabc", "", api.ErrSyntax},
		{"\"\x00\"", "", api.ErrSyntax},
	} {
		if got, err := Quote(c.v); got != c.want || err != c.err {
			t.Errorf("Quote(%q) = %q, %d, want %q, %d", c.v, got, err, c.want, c.err)
		}
	}
}

// P17.3: every byte in each place, all short values, and long ones.
func TestQuoteOfAllBytesAndShortValues(t *testing.T) {
	for b := range 256 {
		c := string([]byte{byte(b)})
		for _, v := range []string{c, c + "ab", "a" + c + "b", "ab" + c, `\` + c, c + `"`, c + c} {
			checkQuote(t, v)
		}
	}
	texts([]string{`"`, `\`, "a", "\t", "\xFF", "\x7F"}, 5, func(v string) { checkQuote(t, v) })
	checkQuote(t, strings.Repeat(`a"\`, 1<<16))
	checkQuote(t, strings.Repeat(`a"\`, 1<<16)+"\n")
}

// P17.1, P17.2, P17.3: random texts.
func TestRandomTexts(t *testing.T) {
	random := rand.New(rand.NewSource(17))
	const frequent = `""""\\\\aB1-=; ` + "\t\x80"
	for range 20000 {
		text := make([]byte, random.Intn(24))
		for i := range text {
			text[i] = frequent[random.Intn(len(frequent))]
			if random.Intn(40) == 0 {
				text[i] = byte(random.Intn(256))
			}
		}
		s := string(text)
		i := random.Intn(len(s)+3) - 1
		checkToken(t, s, i)
		checkParse(t, s, i)
		checkParse(t, `"`+s, 0)
		checkQuote(t, s)
	}
}

// P17.2, P17.3: the examples of the chapter.
func TestExamples(t *testing.T) {
	if v, end, err := Parse(`x="a\"b"`, 2); v != `a"b` || end != 8 || err != api.OK {
		t.Errorf("%q, %d, %d", v, end, err)
	}
	if text, err := Quote(`a"b`); text != `"a\"b"` || err != api.OK {
		t.Errorf("%q, %d", text, err)
	}
	if v, end, err := Parse(`"\"a`, 0); v != "" || end != 0 || err != api.ErrTruncated {
		t.Errorf("%q, %d, %d", v, end, err)
	}
}

// P17.2, P17.3: the results share no memory with the arguments, nor with one another.
func TestMemory(t *testing.T) {
	// A value of one byte cannot be overwritten: Go keeps those strings as constants.
	for _, text := range []string{`"abc"`, `"a\"b"`, `"abcdefghijklmnopqrstuvwxyz"`} {
		want, _, _ := parseByDefinition(text, 0)
		s := copied(text)
		first, _, _ := Parse(s, 0)
		second, _, _ := Parse(s, 0)
		overwrite(s)
		if first != want || second != want {
			t.Errorf("Parse(%q) returns a part of its argument", text)
		}
		if unsafe.StringData(first) == unsafe.StringData(second) {
			t.Errorf("Parse(%q) returns the same memory twice", text)
		}
		v := copied(want)
		quotedFirst, _ := Quote(v)
		quotedSecond, _ := Quote(v)
		overwrite(v)
		overwrite(quotedFirst)
		if again, _, _ := Parse(quotedSecond, 0); again != want {
			t.Errorf("Quote(%q) returns shared memory", want)
		}
	}
}

// overwrite replaces all bytes of s, which must not be a constant.
func overwrite(s string) {
	clear(unsafe.Slice(unsafe.StringData(s), len(s)))
}

// copied returns a copy of s that can be overwritten.
func copied(s string) string { return string([]byte(s)) }
