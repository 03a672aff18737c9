package fields

import (
	"bytes"
	"fmt"
	"math/rand"
	"slices"
	"strings"
	"testing"
	"unsafe"

	"hstsstore/api"
)

// tokenCharacters are those of RFC 9110.
const tokenCharacters = "!#$%&'*+-.^_`|~0123456789abcdefghijklmnopqrstuvwxyzABCDEFGHIJKLMNOPQRSTUVWXYZ"

func tokenByDefinition(s string) bool {
	return s != "" && strings.Trim(s, tokenCharacters) == ""
}

// valueByDefinition reports whether s consists of bytes of values.
func valueByDefinition(s string) bool {
	for _, b := range []byte(s) {
		if b < 0x20 && b != 0x09 || b == 0x7F {
			return false
		}
	}
	return true
}

// lowered returns s with the letters of ASCII in lower case.
func lowered(s string) string {
	b := []byte(s)
	for i := range b {
		if 'A' <= b[i] && b[i] <= 'Z' {
			b[i] += 'a' - 'A'
		}
	}
	return string(b)
}

// parseByDefinition returns the results of Parse by the definition.
func parseByDefinition(block string) ([]api.Field, api.Errno) {
	if len(block) > api.MaxBlock {
		return nil, api.ErrLimit
	}
	var list []api.Field
	ended := strings.Split(block, "\n")
	rest := ended[len(ended)-1]
	for _, line := range ended[:len(ended)-1] {
		if n := len(line); n > 0 && line[n-1] == '\r' {
			line = line[:n-1]
		}
		if line == "" {
			return list, api.OK
		}
		if len(list) >= api.MaxFields {
			return nil, api.ErrLimit
		}
		at := strings.IndexByte(line, ':')
		if at < 0 || !tokenByDefinition(line[:at]) || !valueByDefinition(line[at+1:]) {
			return nil, api.ErrSyntax
		}
		list = append(list, api.Field{Name: lowered(line[:at]), Value: strings.Trim(line[at+1:], "\t ")})
	}
	if rest != "" {
		return nil, api.ErrTruncated
	}
	return list, api.OK
}

// formatByDefinition returns the results of Format by the definition.
func formatByDefinition(l []api.Field) (string, api.Errno) {
	if len(l) > api.MaxFields {
		return "", api.ErrLimit
	}
	text := ""
	for _, f := range l {
		if !tokenByDefinition(f.Name) || lowered(f.Name) != f.Name {
			return "", api.ErrInvalid
		}
		// The name, the colon and the line feed of the line with this value have at least three bytes.
		if !valueByDefinition(f.Value) || strings.Trim(f.Value, "\t ") != f.Value || len(f.Value)+3 > api.MaxBlock {
			return "", api.ErrInvalid
		}
		text += fmt.Sprintf("%s: %s\r\n", f.Name, f.Value)
	}
	if text += "\r\n"; len(text) > api.MaxBlock {
		return "", api.ErrLimit
	}
	return text, api.OK
}

func checkParse(t *testing.T, block string) {
	t.Helper()
	got, e := Parse([]byte(block))
	want, wantErr := parseByDefinition(block)
	if !slices.Equal(got, want) || e != wantErr {
		t.Errorf("Parse(%.200q) is %.200q and %d, not %.200q and %d", block, fmt.Sprint(got), e, fmt.Sprint(want), wantErr)
	}
}

// checkFormat checks Format, and that Parse reads back what it returns.
func checkFormat(t *testing.T, l []api.Field) {
	t.Helper()
	got, e := Format(l)
	want, wantErr := formatByDefinition(l)
	if string(got) != want || e != wantErr {
		t.Errorf("Format(%.200q) is %.200q and %d, not %.200q and %d", fmt.Sprint(l), got, e, want, wantErr)
	}
	if e != api.OK {
		return
	}
	if back, e := Parse(got); !slices.Equal(back, l) || e != api.OK {
		t.Errorf("Parse(%.200q) is %.200q and %d, not %.200q", got, fmt.Sprint(back), e, fmt.Sprint(l))
	}
}

// texts calls f with each text of up to n of the fragments.
func texts(fragments []string, n int, f func(text string)) {
	var extend func(text string, n int)
	extend = func(text string, n int) {
		f(text)
		if n == 0 {
			return
		}
		for _, fragment := range fragments {
			extend(text+fragment, n-1)
		}
	}
	extend("", n)
}

// pairs returns the fields with the names and values that are given in turn.
func pairs(parts ...string) []api.Field {
	var list []api.Field
	for i := 0; i < len(parts); i += 2 {
		list = append(list, api.Field{Name: parts[i], Value: parts[i+1]})
	}
	return list
}

// P21.1: the fields up to the first empty line, and the errors.
func TestParse(t *testing.T) {
	for _, c := range []struct {
		block string
		want  []api.Field
		err   api.Errno
	}{
		{"", nil, api.OK},
		{"\n", nil, api.OK},
		{"\r\n", nil, api.OK},
		{"A: x \r\nb:y\n\r\nrest", pairs("a", "x", "b", "y"), api.OK},
		{"a:x\n", pairs("a", "x"), api.OK},
		{"a:x\r\n", pairs("a", "x"), api.OK},
		{"a:\n", pairs("a", ""), api.OK},
		{"a:\r\n", pairs("a", ""), api.OK},
		{"a: \t \r\n", pairs("a", ""), api.OK},
		{"a:\t x \ty\t \n", pairs("a", "x \ty"), api.OK},
		{"a::\n", pairs("a", ":"), api.OK},
		{"a: b: c\n", pairs("a", "b: c"), api.OK},
		{"A-B_c!#$%&'*+.^`|~09:x\n", pairs("a-b_c!#$%&'*+.^`|~09", "x"), api.OK},
		{"a: X y Z\n", pairs("a", "X y Z"), api.OK},
		{"a:\x80\xFF\xA0\n", pairs("a", "\x80\xFF\xA0"), api.OK},
		{"a:\u00a0x\u2028\n", pairs("a", "\u00a0x\u2028"), api.OK},
		{"b:1\na:2\nB:3\nb:1\n", pairs("b", "1", "a", "2", "b", "3", "b", "1"), api.OK},
		// Everything behind the first empty line is ignored.
		{"a:x\n\nb:y\n", pairs("a", "x"), api.OK},
		{"a:x\n\r\nb:y\n", pairs("a", "x"), api.OK},
		{"a:x\r\n\n \x00", pairs("a", "x"), api.OK},
		{"\na:x\n", nil, api.OK},
		{"\n\x00", nil, api.OK},
		{"\r\nx", nil, api.OK},
		// A carriage return belongs to the line, except directly before the line feed.
		{"\r\r\n", nil, api.ErrSyntax},
		{"a:x\r\r\n", nil, api.ErrSyntax},
		{"a:x\ry\n", nil, api.ErrSyntax},
		{"a:\rx\n", nil, api.ErrSyntax},
		{"a\r:x\n", nil, api.ErrSyntax},
		{"\ra:x\n", nil, api.ErrSyntax},
		{"a:x\r \n", nil, api.ErrSyntax},
		{"\r", nil, api.ErrTruncated},
		{"a:x\r", nil, api.ErrTruncated},
		{"a:x\n\r", nil, api.ErrTruncated},
		// No field lines.
		{" x: y\n", nil, api.ErrSyntax},
		{"\tx: y\n", nil, api.ErrSyntax},
		{"x : y\n", nil, api.ErrSyntax},
		{"x\t: y\n", nil, api.ErrSyntax},
		{"a:x\n y\n", nil, api.ErrSyntax},
		{"a:x\n y: z\n", nil, api.ErrSyntax},
		{" \n", nil, api.ErrSyntax},
		{"x\n", nil, api.ErrSyntax},
		{":\n", nil, api.ErrSyntax},
		{":x\n", nil, api.ErrSyntax},
		{"x y: z\n", nil, api.ErrSyntax},
		{"x=y\n", nil, api.ErrSyntax},
		{"\xC4: x\n", nil, api.ErrSyntax},
		{"a\x00: x\n", nil, api.ErrSyntax},
		{"a: x\x00\n", nil, api.ErrSyntax},
		{"a: \v\n", nil, api.ErrSyntax},
		{"a: \x1F\n", nil, api.ErrSyntax},
		{"a: \x7F\n", nil, api.ErrSyntax},
		{"HTTP/1.1 200 OK\r\na: x\r\n\r\n", nil, api.ErrSyntax},
		// The rest has no line feed.
		{"a: b", nil, api.ErrTruncated},
		{"x", nil, api.ErrTruncated},
		{"\x00", nil, api.ErrTruncated},
		{"a:x\nb", nil, api.ErrTruncated},
		{"a:x\r\nb:y", nil, api.ErrTruncated},
		// The error of the first line.
		{"x\ny", nil, api.ErrSyntax},
		{"x\n\n", nil, api.ErrSyntax},
		{"a:x\ny\nz", nil, api.ErrSyntax},
	} {
		if got, e := Parse([]byte(c.block)); !slices.Equal(got, c.want) || e != c.err {
			t.Errorf("Parse(%q) is %+v and %d", c.block, got, e)
		}
		checkParse(t, c.block)
	}
	if got, e := Parse(nil); len(got) != 0 || e != api.OK {
		t.Errorf("Parse(nil) is %+v and %d", got, e)
	}
}

// P21.1: all short texts.
func TestParseOfShortTexts(t *testing.T) {
	fragments := []string{"a", "B", ":", " ", "\t", "\r", "\n", "\x00", "\x80"}
	texts(fragments, 6, func(text string) { checkParse(t, text) })
	lines := []string{"a:x\n", "B: \ty \r\n", "\n", "\r\n", "bad\n", " c:x\n", "d:\n", "e"}
	texts(lines, 5, func(text string) { checkParse(t, text) })
}

// P21.1: each byte at each place of a section, and instead of each byte.
func TestParseWithEachByte(t *testing.T) {
	for _, block := range []string{"Ab: x y \r\nc:\n\r\nrest", "a:b\n"} {
		for i := range len(block) + 1 {
			for b := range 256 {
				checkParse(t, block[:i]+string([]byte{byte(b)})+block[i:])
				if i < len(block) {
					checkParse(t, block[:i]+string([]byte{byte(b)})+block[i+1:])
				}
			}
		}
	}
}

// P21.1: each pair of bytes as a name, as a value, around a colon and before a line feed.
func TestParseOfPairs(t *testing.T) {
	for i := range 256 * 256 {
		pair := string([]byte{byte(i >> 8), byte(i)})
		for _, block := range []string{pair + ":x\n", "x:" + pair + "\n", pair[:1] + ":" + pair[1:] + "\n", pair} {
			checkParse(t, block)
		}
	}
}

// P21.1: the limit of the bytes comes before everything else.
func TestParseByteLimit(t *testing.T) {
	for _, fragment := range []string{"a", ":", "a:b\n", "\n", "\r\n", " ", "\x00", "bad\n", "a: " + strings.Repeat("x", 300) + "\r\n"} {
		long := strings.Repeat(fragment, api.MaxBlock+2)
		for _, n := range []int{api.MaxBlock - 1, api.MaxBlock, api.MaxBlock + 1, api.MaxBlock + 2} {
			checkParse(t, long[:n])
		}
		if got, e := Parse([]byte(long[:api.MaxBlock+1])); len(got) != 0 || e != api.ErrLimit {
			t.Errorf("%.20q: %d fields and %d", fragment, len(got), e)
		}
	}
	value := strings.Repeat("x", api.MaxBlock-3)
	if got, e := Parse([]byte("A:" + value + "\n")); !slices.Equal(got, pairs("a", value)) || e != api.OK {
		t.Errorf("%d fields and %d", len(got), e)
	}
	if got, e := Parse([]byte("A:" + value + "\r\n")); len(got) != 0 || e != api.ErrLimit {
		t.Errorf("%d fields and %d", len(got), e)
	}
	// Bytes behind the section count.
	if got, e := Parse([]byte("A:x\n\n" + value)); len(got) != 0 || e != api.ErrLimit {
		t.Errorf("%d fields and %d", len(got), e)
	}
}

// P21.1: the limit of the fields comes behind that of the rest and before the form of the line.
func TestParseFieldLimit(t *testing.T) {
	for _, c := range []struct {
		behind string
		err    api.Errno
	}{
		{"", api.OK},
		{"\n", api.OK},
		{"\r\n", api.OK},
		{"\nx\x00", api.OK},
		{"\r\n" + strings.Repeat("a:b\n", 5), api.OK},
		{"a:b\n", api.ErrLimit},
		{"bad\n", api.ErrLimit},
		{" \n", api.ErrLimit},
		{"\r\r\n", api.ErrLimit},
		{"a:b\nbad", api.ErrLimit},
		{"a:b", api.ErrTruncated},
		{"bad", api.ErrTruncated},
		{"\r", api.ErrTruncated},
	} {
		for n := api.MaxFields - 2; n <= api.MaxFields+2; n++ {
			checkParse(t, strings.Repeat("A: b\r\n", n)+c.behind)
		}
		var want []api.Field
		if c.err == api.OK {
			want = slices.Repeat(pairs("a", "b"), api.MaxFields)
		}
		got, e := Parse([]byte(strings.Repeat("A: b\r\n", api.MaxFields) + c.behind))
		if !slices.Equal(got, want) || e != c.err {
			t.Errorf("%q: %d fields and %d", c.behind, len(got), e)
		}
	}
	// A line with another error before that.
	for i := range api.MaxFields + 1 {
		want := api.ErrSyntax
		if i == api.MaxFields {
			want = api.ErrLimit
		}
		block := strings.Repeat("a:b\n", i) + "bad\n" + strings.Repeat("a:b\n", api.MaxFields+1-i)
		if got, e := Parse([]byte(block)); len(got) != 0 || e != want {
			t.Errorf("bad at %d: %d fields and %d", i, len(got), e)
		}
	}
}

// firstByDefinition returns the results of First by the definition.
func firstByDefinition(l []api.Field, name string) (string, bool) {
	if all := allByDefinition(l, name); len(all) > 0 {
		return all[0], true
	}
	return "", false
}

// allByDefinition returns the results of All by the definition.
func allByDefinition(l []api.Field, name string) []string {
	var all []string
	for _, f := range l {
		if lowered(f.Name) == lowered(name) {
			all = append(all, f.Value)
		}
	}
	return all
}

func checkNamed(t *testing.T, l []api.Field, name string) {
	t.Helper()
	first, found := First(l, name)
	if want, wantFound := firstByDefinition(l, name); first != want || found != wantFound {
		t.Errorf("First(%.200q, %q) is %q and %v", fmt.Sprint(l), name, first, found)
	}
	if all := All(l, name); !slices.Equal(all, allByDefinition(l, name)) {
		t.Errorf("All(%.200q, %q) is %q", fmt.Sprint(l), name, all)
	}
}

// P21.2: the values of the fields with a name, regardless of case.
func TestNamed(t *testing.T) {
	list := pairs("a", "1", "B-c", "2", "b-C", "", "A", "3", "", "4", "b-c", "2", "\xC4", "5", "\u017F", "6", "d", "")
	for _, c := range []struct {
		name string
		all  []string
	}{
		{"a", []string{"1", "3"}},
		{"A", []string{"1", "3"}},
		{"b-c", []string{"2", "", "2"}},
		{"B-C", []string{"2", "", "2"}},
		{"", []string{"4"}},
		{"d", []string{""}},
		{"D", []string{""}},
		{"\xC4", []string{"5"}},
		{"\xE4", nil},
		{"\u017F", []string{"6"}},
		{"s", nil},
		{"b", nil},
		{"c", nil},
		{"b-c ", nil},
		{"b_c", nil},
		{"B\rC", nil},
		{"aa", nil},
		{" ", nil},
	} {
		first, found := First(list, c.name)
		if found != (c.all != nil) || found && first != c.all[0] || !found && first != "" {
			t.Errorf("First of %q is %q and %v", c.name, first, found)
		}
		if all := All(list, c.name); !slices.Equal(all, c.all) {
			t.Errorf("All of %q is %q", c.name, all)
		}
		checkNamed(t, list, c.name)
	}
	checkNamed(t, nil, "a")
	checkNamed(t, nil, "")
	// Whatever the numbers of fields and bytes.
	long := strings.Repeat("x", 2*api.MaxBlock)
	many := append(slices.Repeat(pairs("a", "1", "b", "2"), api.MaxFields), pairs(long, long)...)
	checkNamed(t, many, "A")
	checkNamed(t, many, strings.ToUpper(long))
	checkNamed(t, many, long[1:])
}

// P21.2: each byte as a name of a field and as the name that is looked for.
func TestNamedOfEachByte(t *testing.T) {
	var list []api.Field
	for b := range 256 {
		list = append(list, pairs(string([]byte{byte(b)}), fmt.Sprint(b), "x"+string([]byte{byte(b)}), fmt.Sprint(-b))...)
	}
	for b := range 256 {
		checkNamed(t, list, string([]byte{byte(b)}))
		checkNamed(t, list, "X"+string([]byte{byte(b)}))
	}
}

// P21.2: all short lists.
func TestNamedOfShortLists(t *testing.T) {
	var extend func(list []api.Field)
	extend = func(list []api.Field) {
		for _, name := range []string{"a", "A", "b", "ab", ""} {
			checkNamed(t, list, name)
			if len(list) < 4 {
				extend(append(list[:len(list):len(list)], pairs(name, fmt.Sprint(len(list)))...))
				extend(append(list[:len(list):len(list)], pairs(name, "")...))
			}
		}
	}
	extend(nil)
}

// P21.3: the lines of the fields, and the errors.
func TestFormat(t *testing.T) {
	for _, c := range []struct {
		list []api.Field
		want string
		err  api.Errno
	}{
		{nil, "\r\n", api.OK},
		{[]api.Field{}, "\r\n", api.OK},
		{pairs("a", "x"), "a: x\r\n\r\n", api.OK},
		{pairs("a", ""), "a: \r\n\r\n", api.OK},
		{pairs("b", "x y", "a", "X:\tz", "b", "x y"), "b: x y\r\na: X:\tz\r\nb: x y\r\n\r\n", api.OK},
		{pairs("0-!~", ":"), "0-!~: :\r\n\r\n", api.OK},
		{pairs("a", "\x80\xFF"), "a: \x80\xFF\r\n\r\n", api.OK},
		{pairs("", ""), "", api.ErrInvalid},
		{pairs("A", "x"), "", api.ErrInvalid},
		{pairs("aB", "x"), "", api.ErrInvalid},
		{pairs("a b", "x"), "", api.ErrInvalid},
		{pairs("a ", "x"), "", api.ErrInvalid},
		{pairs(" a", "x"), "", api.ErrInvalid},
		{pairs("a:", "x"), "", api.ErrInvalid},
		{pairs("a\n", "x"), "", api.ErrInvalid},
		{pairs("\xE4", "x"), "", api.ErrInvalid},
		{pairs("a", " "), "", api.ErrInvalid},
		{pairs("a", "\t"), "", api.ErrInvalid},
		{pairs("a", " x"), "", api.ErrInvalid},
		{pairs("a", "x "), "", api.ErrInvalid},
		{pairs("a", "\tx"), "", api.ErrInvalid},
		{pairs("a", "x\t"), "", api.ErrInvalid},
		{pairs("a", "\r"), "", api.ErrInvalid},
		{pairs("a", "x\r"), "", api.ErrInvalid},
		{pairs("a", "\n"), "", api.ErrInvalid},
		{pairs("a", "x\n"), "", api.ErrInvalid},
		{pairs("a", "x\nb: y"), "", api.ErrInvalid},
		{pairs("a", "x\r\nb: y"), "", api.ErrInvalid},
		{pairs("a", "x\n\ny"), "", api.ErrInvalid},
		{pairs("a", "\n\nx"), "", api.ErrInvalid},
		{pairs("a", "\x00"), "", api.ErrInvalid},
		{pairs("a", "\x7F"), "", api.ErrInvalid},
		{pairs("a", "x", "b", "y", "C", "z"), "", api.ErrInvalid},
		{pairs("a", "x", "b", "y\v", "c", "z"), "", api.ErrInvalid},
	} {
		if got, e := Format(c.list); string(got) != c.want || e != c.err {
			t.Errorf("Format(%+v) is %q and %d", c.list, got, e)
		}
		checkFormat(t, c.list)
	}
}

// P21.3: each byte at each place of a name and of a value, and all short ones.
func TestFormatOfEachText(t *testing.T) {
	for b := range 256 {
		s := string([]byte{byte(b)})
		for _, list := range [][]api.Field{
			pairs(s, "x"), pairs(s+"a", "x"), pairs("a"+s, "x"), pairs("a"+s+"b", "x"),
			pairs("a", s), pairs("a", s+"x"), pairs("a", "x"+s), pairs("a", "x"+s+"y"),
			pairs("a", "x", "b", s, "c", "y"), pairs("a", "x", s, "y", "c", "z"),
		} {
			checkFormat(t, list)
		}
	}
	texts([]string{"a", "B", "-", ":", " ", "\t", "\r", "\n", "\x7F", "\x80"}, 4, func(text string) {
		checkFormat(t, pairs(text, "x"))
		checkFormat(t, pairs("a", text))
		checkFormat(t, pairs("a", "x", "b", text))
	})
}

// P21.3: the number of fields comes before everything else.
func TestFormatFieldLimit(t *testing.T) {
	for n := api.MaxFields - 2; n <= api.MaxFields+2; n++ {
		checkFormat(t, slices.Repeat(pairs("a", "x"), n))
		checkFormat(t, slices.Repeat(pairs("A", "x"), n))
		checkFormat(t, slices.Repeat(pairs("a", "\n"), n))
		checkFormat(t, slices.Repeat(pairs("a", strings.Repeat("x", 1000)), n))
	}
	if got, e := Format(slices.Repeat(pairs("A", "\n"), api.MaxFields+1)); len(got) != 0 || e != api.ErrLimit {
		t.Errorf("%q and %d", got, e)
	}
	if got, e := Format(slices.Repeat(pairs("a", ""), api.MaxFields)); len(got) != 5*api.MaxFields+2 || e != api.OK {
		t.Errorf("%q and %d", got, e)
	}
}

// P21.3: the number of bytes comes behind everything else, whatever it is that has them.
func TestFormatByteLimit(t *testing.T) {
	for n := api.MaxBlock - 9; n <= api.MaxBlock+9; n++ {
		long := strings.Repeat("x", n)
		checkFormat(t, pairs(long, ""))
		checkFormat(t, pairs("a", long))
		checkFormat(t, pairs("a", "x", "b", long))
		checkFormat(t, pairs(long, "", "A", ""))
		checkFormat(t, pairs("a", long, "b", " "))
		checkFormat(t, pairs(long[:n/2], long[n/2:]))
		checkFormat(t, pairs("a", long[:n/3], "b", long[n/3:n/2], "c", long[n/2:]))
	}
	for _, c := range []struct {
		list []api.Field
		size int
		err  api.Errno
	}{
		{pairs("a", strings.Repeat("x", api.MaxBlock-7)), api.MaxBlock, api.OK},
		{pairs("a", strings.Repeat("x", api.MaxBlock-6)), 0, api.ErrLimit},
		{pairs(strings.Repeat("x", api.MaxBlock-6), ""), api.MaxBlock, api.OK},
		{pairs(strings.Repeat("x", api.MaxBlock-5), ""), 0, api.ErrLimit},
		{pairs(strings.Repeat("x", 2*api.MaxBlock), ""), 0, api.ErrLimit},
		// The longest value that Parse can return, and one that it cannot return.
		{pairs("a", strings.Repeat("x", api.MaxBlock-3)), 0, api.ErrLimit},
		{pairs("a", strings.Repeat("x", api.MaxBlock-2)), 0, api.ErrInvalid},
		{pairs(strings.Repeat("x", api.MaxBlock), strings.Repeat("x", api.MaxBlock)), 0, api.ErrInvalid},
		{slices.Repeat(pairs("a", strings.Repeat("x", 200)), api.MaxFields), 0, api.ErrLimit},
	} {
		if got, e := Format(c.list); len(got) != c.size || e != c.err {
			t.Errorf("Format(%.60q) has %d bytes, and %d", fmt.Sprint(c.list), len(got), e)
		}
	}
}

// P21.1 and P21.3: random sections, and the fields that they contain.
func TestRandomTexts(t *testing.T) {
	random := rand.New(rand.NewSource(21))
	fragments := []string{
		"Strict-Transport-Security: max-age=31536000; includeSubDomains", "content-security-policy:", "a", "B", "x-y", ":", ":", ": ", " ", "\t",
		"\x80", "\xFF", "\n", "\n", "\r\n", "\r\n", "\r\n\r\n", "\r", "a:b\n", "c: D \r\n", "\x00", "\x7F", "\v", ",", ";", "\"",
	}
	text := func(n int) string {
		var text strings.Builder
		for range random.Intn(n) {
			text.WriteString(fragments[random.Intn(len(fragments))])
		}
		return text.String()
	}
	for range 50000 {
		block := text(14)
		checkParse(t, block)
		list, _ := Parse([]byte(block))
		checkFormat(t, list)
		for range random.Intn(3) {
			list = append(list, api.Field{Name: text(3), Value: text(4)})
		}
		checkFormat(t, list)
		checkNamed(t, list, text(3))
		for _, f := range list {
			checkNamed(t, list, strings.ToUpper(f.Name))
		}
	}
}

// Rule 8: the iterators can be left early and used again.
func TestIterators(t *testing.T) {
	sequence := lines("a\r\n\nb\r\r\nc")
	want := []string{"a true", " true", "b\r true", "c false"}
	for n := range len(want) + 1 {
		var got []string
		for line, ended := range sequence {
			if len(got) == n {
				break
			}
			got = append(got, fmt.Sprint(line, " ", ended))
		}
		if !slices.Equal(got, want[:n]) {
			t.Errorf("the first %d lines are %q", n, got)
		}
	}
	named := values(pairs("a", "1", "b", "2", "A", "3"), "a")
	for range named {
		break
	}
	for range 2 {
		if got := slices.Collect(named); !slices.Equal(got, []string{"1", "3"}) {
			t.Errorf("the values are %q", got)
		}
	}
}

// overwrite replaces all bytes of s, which must not be a constant.
func overwrite(s string) {
	clear(unsafe.Slice(unsafe.StringData(s), len(s)))
}

// Rule 2: what Parse and Format return shares no memory with arguments and other results.
func TestMemory(t *testing.T) {
	const text = "Name-A: value a\r\nname-b: value b\r\n\r\nrest"
	block := append(make([]byte, 0, 2*len(text)), text...)
	want := pairs("name-a", "value a", "name-b", "value b")
	first, _ := Parse(block)
	second, _ := Parse(block)
	if spare := block[len(block):cap(block)]; string(block) != text || !bytes.Equal(spare, make([]byte, len(spare))) {
		t.Errorf("the argument is now %q", block[:cap(block)])
	}
	clear(block)
	for _, f := range append(first, pairs("x", "y")...)[:2] {
		overwrite(f.Name)
		overwrite(f.Value)
	}
	clear(first[:cap(first)])
	if !slices.Equal(second, want) {
		t.Errorf("the result is now %q", second)
	}
	one, _ := Format(second)
	two, _ := Format(second)
	if !slices.Equal(second, want) {
		t.Errorf("the argument is now %q", second)
	}
	formatted := string(one)
	clear(one[:cap(one)])
	for _, f := range second {
		overwrite(f.Name)
		overwrite(f.Value)
	}
	if string(two) != formatted {
		t.Errorf("the result is now %q", two)
	}
}

// Rule 2: what First and All return shares no memory with arguments and other results.
func TestMemoryOfNamed(t *testing.T) {
	list := append(make([]api.Field, 0, 8), pairs("name", strings.Clone("value a"), "x", "y", "NAME", strings.Clone("value b"))...)
	want := []string{"value a", "value b"}
	kept := slices.Clone(list[:cap(list)])
	one, _ := First(list, "name")
	two, _ := First(list, "name")
	first, second := All(list, "name"), All(list, "Name")
	if !slices.Equal(list[:cap(list)], kept) {
		t.Errorf("the argument is now %q", list[:cap(list)])
	}
	overwrite(one)
	overwrite(first[0])
	overwrite(first[1])
	clear(first[:cap(first)])
	overwrite(list[0].Value)
	overwrite(list[2].Value)
	if two != want[0] || !slices.Equal(second, want) {
		t.Errorf("the results are now %q and %q", two, second)
	}
}
