package directive

import (
	"math/rand"
	"regexp"
	"slices"
	"strings"
	"testing"
	"unsafe"

	"hstsstore/api"
)

// The definitions of the chapter, for text in which each byte is written as the code point with its number.
const (
	token        = "[!#$%&'*+\\-.^_`|~0-9A-Za-z]+"
	lowerToken   = "[!#$%&'*+\\-.^_`|~0-9a-z]+"
	quotedString = `"(?:[\t\x20\x21\x23-\x5B\x5D-\x7E\x{80}-\x{FF}]|\\[\t\x20-\x7E\x{80}-\x{FF}])*"`
	quotedValue  = `[\t\x20-\x7E\x{80}-\x{FF}]*`
)

var (
	emptyElement = regexp.MustCompile(`^[\t ]*(?:;|$)`)
	fullElement  = regexp.MustCompile(`^[\t ]*(` + token + `)(?:[\t ]*(=)[\t ]*(` + token + `|` + quotedString + `))?[\t ]*(?:;|$)`)
	names        = regexp.MustCompile(`^` + lowerToken + `$`)
	wholeToken   = regexp.MustCompile(`^` + token + `$`)
	values       = regexp.MustCompile(`^` + quotedValue + `$`)
	escapes      = regexp.MustCompile(`\\(.)`)
	upper        = regexp.MustCompile(`[A-Z]`)
)

// points returns s with each byte written as the code point with its number.
func points(s string) string {
	var text []rune
	for _, b := range []byte(s) {
		text = append(text, rune(b))
	}
	return string(text)
}

// octets is the inverse of points.
func octets(text string) string {
	var s []byte
	for _, r := range text {
		s = append(s, byte(r))
	}
	return string(s)
}

// flag returns a directive without a value.
func flag(name string) api.Directive { return api.Directive{Name: name} }

// pair returns a directive with a value.
func pair(name, value string) api.Directive {
	return api.Directive{Name: name, Value: value, HasValue: true}
}

// parseByDefinition returns the results of Parse by the definition.
func parseByDefinition(s string) ([]api.Directive, api.Errno) {
	if len(s) > api.MaxHeader {
		return nil, api.ErrLimit
	}
	var list []api.Directive
	for rest := points(s); rest != ""; {
		if empty := emptyElement.FindString(rest); empty != "" {
			rest = rest[len(empty):]
			continue
		}
		if len(list) >= api.MaxDirectives {
			return nil, api.ErrLimit
		}
		found := fullElement.FindStringSubmatch(rest)
		if found == nil {
			return nil, api.ErrSyntax
		}
		d := api.Directive{Name: upper.ReplaceAllStringFunc(found[1], strings.ToLower), HasValue: found[2] != ""}
		if d.Value = octets(found[3]); strings.HasPrefix(d.Value, `"`) {
			d.Value = octets(escapes.ReplaceAllString(found[3][1:len(found[3])-1], "$1"))
		}
		list = append(list, d)
		rest = rest[len(found[0]):]
	}
	return list, api.OK
}

// validByDefinition returns the result of Valid by the definition.
func validByDefinition(l []api.Directive) bool {
	for _, d := range l {
		if !names.MatchString(points(d.Name)) || !values.MatchString(points(d.Value)) || !d.HasValue && d.Value != "" {
			return false
		}
	}
	return len(l) <= 32
}

// formatByDefinition returns the results of Format by the definition.
func formatByDefinition(l []api.Directive) (string, api.Errno) {
	if !validByDefinition(l) {
		return "", api.ErrInvalid
	}
	var elements []string
	for _, d := range l {
		switch {
		case !d.HasValue:
			elements = append(elements, d.Name)
		case wholeToken.MatchString(points(d.Value)):
			elements = append(elements, d.Name+"="+d.Value)
		default:
			elements = append(elements, d.Name+`="`+strings.NewReplacer(`"`, `\"`, `\`, `\\`).Replace(d.Value)+`"`)
		}
	}
	text := strings.Join(elements, "; ")
	if len(text) > 4096 {
		return "", api.ErrLimit
	}
	return text, api.OK
}

// checkParse compares the results of Parse with their definition, and writes and reads the directives.
func checkParse(t *testing.T, s string) {
	t.Helper()
	want, wantErr := parseByDefinition(s)
	got, err := Parse(s)
	if !slices.Equal(got, want) || err != wantErr {
		t.Fatalf("Parse(%.99q) = %+.99v, %d, want %+.99v, %d", s, got, err, want, wantErr)
	}
	checkFormat(t, got)
}

// checkFormat compares the results of Valid and Format with their definitions, and reads the text back.
func checkFormat(t *testing.T, l []api.Directive) {
	t.Helper()
	if got, want := Valid(l), validByDefinition(l); got != want {
		t.Fatalf("Valid(%+.99v) = %v, want %v", l, got, want)
	}
	want, wantErr := formatByDefinition(l)
	got, err := Format(l)
	if got != want || err != wantErr {
		t.Fatalf("Format(%+.99v) = %.99q, %d, want %.99q, %d", l, got, err, want, wantErr)
	}
	if err != api.OK {
		return
	}
	if back, err := Parse(got); !slices.Equal(back, l) || err != api.OK {
		t.Fatalf("Parse(%.99q) = %+.99v, %d, want %+.99v", got, back, err, l)
	}
}

// texts calls f with the empty text and all texts of up to n fragments.
func texts(fragments []string, n int, f func(s string)) {
	f("")
	if n == 0 {
		return
	}
	for _, fragment := range fragments {
		texts(fragments, n-1, func(s string) { f(s + fragment) })
	}
}

// P18.1: lists of header fields, blanks, empty elements, and quoted strings.
func TestParseOfOrdinaryText(t *testing.T) {
	for _, c := range []struct {
		s    string
		want []api.Directive
	}{
		{"max-age=31536000; includeSubDomains", []api.Directive{pair("max-age", "31536000"), flag("includesubdomains")}},
		{"max-age=0", []api.Directive{pair("max-age", "0")}},
		{"", nil},
		{" ", nil},
		{";", nil},
		{" ;\t; ;; ", nil},
		{"a", []api.Directive{flag("a")}},
		{"a;", []api.Directive{flag("a")}},
		{";a", []api.Directive{flag("a")}},
		{";;a;;b;;", []api.Directive{flag("a"), flag("b")}},
		{" \t a \t ", []api.Directive{flag("a")}},
		{" a ; b ", []api.Directive{flag("a"), flag("b")}},
		{"a=b", []api.Directive{pair("a", "b")}},
		{"a=b;", []api.Directive{pair("a", "b")}},
		{" \ta \t= \tb \t; \tc", []api.Directive{pair("a", "b"), flag("c")}},
		{"ABC=DEF", []api.Directive{pair("abc", "DEF")}},
		{`ABC="DEF"`, []api.Directive{pair("abc", "DEF")}},
		{`a=""`, []api.Directive{pair("a", "")}},
		{`a = "" `, []api.Directive{pair("a", "")}},
		{`a="";b`, []api.Directive{pair("a", ""), flag("b")}},
		{`a=";";b`, []api.Directive{pair("a", ";"), flag("b")}},
		{`a="b;c=d;";e`, []api.Directive{pair("a", "b;c=d;"), flag("e")}},
		{`a="\";";b`, []api.Directive{pair("a", `";`), flag("b")}},
		{`a="\\";b`, []api.Directive{pair("a", `\`), flag("b")}},
		{`a=" b "`, []api.Directive{pair("a", " b ")}},
		{"a=\"\t\x80\xFF\"", []api.Directive{pair("a", "\t\x80\xFF")}},
		{"a=\"\u00FC\"", []api.Directive{pair("a", "\u00FC")}},
		{"a;a;A=1", []api.Directive{flag("a"), flag("a"), pair("a", "1")}},
		{"!#$%&'*+-.^_`|~=!#$%&'*+-.^_`|~", []api.Directive{pair("!#$%&'*+-.^_`|~", "!#$%&'*+-.^_`|~")}},
		{"0=0", []api.Directive{pair("0", "0")}},
	} {
		if got, err := Parse(c.s); !slices.Equal(got, c.want) || err != api.OK {
			t.Errorf("Parse(%q) = %+v, %d, want %+v", c.s, got, err, c.want)
		}
		checkParse(t, c.s)
	}
}

// P18.1: elements that do not have the required form, with nothing, with an element and with an error around them.
func TestParseOfWrongElements(t *testing.T) {
	for _, s := range []string{
		"=", "=b", " =b", "a=", "a= ", "a=;", "a==", "a==b", "a=b=c", "a=b=", "a b", "a\tb", "a=b c", "a= b c",
		`"a"`, `"a"=b`, `a"b"`, `a "b"`, `a="b`, `a="b\`, `a="b\"`, `a="b;`, `a="b"c`, `a="b" c`, `a="b""c"`, `a="b"="c"`, `a=b"c"`, `a='b;c d'`,
		"a,b", "a=b,c", "a:b", "a/b", "a=b/c", "a\n", "\na", "a=\nb", "a=b\r\n", "a\v", "a\f", "\f", "\x00", "a\x00", "a=\x00", "a=\"\x00\"", "a=\"\n\"", "a=\"\x7F\"", "a=\"\\\x00\"",
		"\u00FC", "a\u00FC", "a=\u00FC", "a\u00A0=b", "a\x80", "\xFF", `\a`, `a=\b`, "a=(b)",
	} {
		for _, before := range []string{"", " ", ";", "a;", `a="";`, `a=";" ; `} {
			for _, behind := range []string{"", ";", ";a", ";=", " ;\x00"} {
				if got, err := Parse(before + s + behind); got != nil || err != api.ErrSyntax {
					t.Errorf("Parse(%q) = %+v, %d, want ErrSyntax", before+s+behind, got, err)
				}
				checkParse(t, before+s+behind)
			}
		}
	}
}

// P18.1: the limits, and which of several errors is the first one.
func TestParseLimits(t *testing.T) {
	const n = api.MaxDirectives
	many := strings.Repeat("a;", n)
	list := slices.Repeat([]api.Directive{flag("a")}, n)
	quotedList := slices.Repeat([]api.Directive{pair("a", ";")}, n)
	for _, c := range []struct {
		s    string
		want []api.Directive
		err  api.Errno
	}{
		{many, list, api.OK},
		{strings.TrimSuffix(many, ";"), list, api.OK},
		{many + " ; ;\t;", list, api.OK},
		{strings.Repeat(" ; ;", 100) + strings.Repeat("a; ;; ", n), list, api.OK},
		{strings.Repeat(`a=";";`, n), quotedList, api.OK},
		{many + "a", nil, api.ErrLimit},
		{many + ";; a", nil, api.ErrLimit},
		{many + "a;a;a", nil, api.ErrLimit},
		{many + "=", nil, api.ErrLimit},                         // before: the form of this element
		{many + `a="`, nil, api.ErrLimit},                       // before: the form of this element
		{many + "\x00", nil, api.ErrLimit},                      // before: the form of this element
		{"=;" + many, nil, api.ErrSyntax},                       // before: the number of elements
		{"=;" + many + "a;a", nil, api.ErrSyntax},               // before: the number of elements
		{strings.Repeat("a;", n-1) + "=;a", nil, api.ErrSyntax}, // before: the number of elements
		{strings.Repeat("a;", n-1) + "a b;a", nil, api.ErrSyntax},
		{strings.Repeat(";", api.MaxHeader), nil, api.OK},
		{strings.Repeat(" ", api.MaxHeader), nil, api.OK},
		{strings.Repeat("a", api.MaxHeader), []api.Directive{flag(strings.Repeat("a", api.MaxHeader))}, api.OK},
		{"a=" + strings.Repeat("B", api.MaxHeader-2), []api.Directive{pair("a", strings.Repeat("B", api.MaxHeader-2))}, api.OK},
		{`a="` + strings.Repeat("; ", api.MaxHeader/2-2) + `"`, []api.Directive{pair("a", strings.Repeat("; ", api.MaxHeader/2-2))}, api.OK},
		{strings.Repeat("=", api.MaxHeader), nil, api.ErrSyntax},
		{strings.Repeat("=", api.MaxHeader+1), nil, api.ErrLimit}, // before: the form of an element
		{strings.Repeat(";", api.MaxHeader+1), nil, api.ErrLimit},
		{strings.Repeat(" ", api.MaxHeader+1), nil, api.ErrLimit},
		{strings.Repeat("a", api.MaxHeader+1), nil, api.ErrLimit},
		{strings.Repeat("a", 1<<20), nil, api.ErrLimit},
	} {
		if got, err := Parse(c.s); !slices.Equal(got, c.want) || err != c.err {
			t.Errorf("Parse(%.99q) of %d bytes = %+.99v, %d, want %+.99v, %d", c.s, len(c.s), got, err, c.want, c.err)
		}
		checkParse(t, c.s)
	}
}

// P18.1: every byte in each place of an element, and every pair of bytes.
func TestParseWithEachByte(t *testing.T) {
	for b := range 256 {
		c := string([]byte{byte(b)})
		for _, s := range []string{
			c, c + "a", "a" + c, "a" + c + "b", "a " + c, "a " + c + " b", "a=" + c, "a=" + c + "b", "a=b" + c, "a=b" + c + "c", "a = " + c + " b", "a=b " + c,
			`a="` + c, `a="` + c + `"`, `a="\` + c + `"`, `a="b"` + c, `a="b" ` + c + "d", `a="b"` + c + "d", ";" + c + ";", "a;" + c, "a;" + c + "=b",
		} {
			checkParse(t, s)
		}
		for second := range 256 {
			checkParse(t, c+string([]byte{byte(second)}))
			checkParse(t, "a="+c+string([]byte{byte(second)}))
		}
	}
}

// P18.1: all short texts.
func TestParseOfShortTexts(t *testing.T) {
	texts([]string{"a", "B", "=", ";", " ", `"`, `\`, "\x00"}, 6, func(s string) { checkParse(t, s) })
	texts([]string{"a", "=", ";", "\t", `"`, `\`}, 4, func(s string) { checkParse(t, "a="+s); checkParse(t, `a="`+s) })
	texts([]string{"a;", `b="`, `"`, ";", " =", `\`}, 6, func(s string) { checkParse(t, s) })
}

// P18.2: valid and invalid lists.
func TestValidAndFormat(t *testing.T) {
	for _, c := range []struct {
		l    []api.Directive
		want string
		err  api.Errno
	}{
		{nil, "", api.OK},
		{[]api.Directive{}, "", api.OK},
		{[]api.Directive{flag("a")}, "a", api.OK},
		{[]api.Directive{flag("a"), flag("a")}, "a; a", api.OK},
		{[]api.Directive{pair("max-age", "60"), flag("includesubdomains")}, "max-age=60; includesubdomains", api.OK},
		{[]api.Directive{pair("a", "")}, `a=""`, api.OK},
		{[]api.Directive{pair("a", "B")}, "a=B", api.OK},
		{[]api.Directive{pair("a", "b c")}, `a="b c"`, api.OK},
		{[]api.Directive{pair("a", ";"), pair("b", "=")}, `a=";"; b="="`, api.OK},
		{[]api.Directive{pair("a", `"\`)}, `a="\"\\"`, api.OK},
		{[]api.Directive{pair("a", "\t\u00FC\xFF")}, "a=\"\t\u00FC\xFF\"", api.OK},
		{[]api.Directive{pair("!#$%&'*+-.^_`|~0", "!#$%&'*+-.^_`|~0")}, "!#$%&'*+-.^_`|~0=!#$%&'*+-.^_`|~0", api.OK},
		{[]api.Directive{flag("")}, "", api.ErrInvalid},
		{[]api.Directive{pair("", "a")}, "", api.ErrInvalid},
		{[]api.Directive{flag("A")}, "", api.ErrInvalid},
		{[]api.Directive{flag("aBc")}, "", api.ErrInvalid},
		{[]api.Directive{flag("abC")}, "", api.ErrInvalid},
		{[]api.Directive{flag(" a")}, "", api.ErrInvalid},
		{[]api.Directive{flag("a ")}, "", api.ErrInvalid},
		{[]api.Directive{flag("a;b")}, "", api.ErrInvalid},
		{[]api.Directive{flag("a=b")}, "", api.ErrInvalid},
		{[]api.Directive{flag(`"a"`)}, "", api.ErrInvalid},
		{[]api.Directive{flag("\u00FC")}, "", api.ErrInvalid},
		{[]api.Directive{{Name: "a", Value: "b"}}, "", api.ErrInvalid},
		{[]api.Directive{{Name: "a", Value: " "}}, "", api.ErrInvalid},
		{[]api.Directive{pair("a", "\x00")}, "", api.ErrInvalid},
		{[]api.Directive{pair("a", "\n")}, "", api.ErrInvalid},
		{[]api.Directive{pair("a", "b\x7F")}, "", api.ErrInvalid},
		{[]api.Directive{flag("a"), pair("b", "c"), flag("")}, "", api.ErrInvalid},
		{[]api.Directive{flag("A"), pair("b", "c"), flag("d")}, "", api.ErrInvalid},
		{[]api.Directive{flag("a"), pair("b", "\r"), flag("d")}, "", api.ErrInvalid},
	} {
		if got := Valid(c.l); got != (c.err == api.OK) {
			t.Errorf("Valid(%+v) = %v", c.l, got)
		}
		if got, err := Format(c.l); got != c.want || err != c.err {
			t.Errorf("Format(%+v) = %q, %d, want %q, %d", c.l, got, err, c.want, c.err)
		}
		checkFormat(t, c.l)
	}
}

// P18.2: the limits, and which of both errors is the first one.
func TestFormatLimits(t *testing.T) {
	const n = api.MaxHeader
	list := slices.Repeat([]api.Directive{flag("a")}, api.MaxDirectives)
	for _, c := range []struct {
		l    []api.Directive
		size int
		err  api.Errno
	}{
		{list, 3*api.MaxDirectives - 2, api.OK},
		{append(slices.Clone(list), flag("a")), 0, api.ErrInvalid},
		{append(slices.Clone(list), list...), 0, api.ErrInvalid},
		{[]api.Directive{flag(strings.Repeat("a", n))}, n, api.OK},
		{[]api.Directive{flag(strings.Repeat("a", n+1))}, 0, api.ErrLimit},
		{[]api.Directive{pair("a", strings.Repeat("b", n-2))}, n, api.OK},
		{[]api.Directive{pair("a", strings.Repeat("b", n-1))}, 0, api.ErrLimit},
		{[]api.Directive{pair("a", strings.Repeat(" ", n-4))}, n, api.OK},
		{[]api.Directive{pair("a", strings.Repeat(" ", n-3))}, 0, api.ErrLimit},
		{[]api.Directive{pair("a", strings.Repeat(`"`, n/2-2))}, n, api.OK},
		{[]api.Directive{pair("a", strings.Repeat(`"`, n/2-1))}, 0, api.ErrLimit},
		{[]api.Directive{flag(strings.Repeat("a", n-3)), flag("b")}, n, api.OK},
		{[]api.Directive{flag(strings.Repeat("a", n-2)), flag("b")}, 0, api.ErrLimit},
		{[]api.Directive{flag(strings.Repeat("a", n)), flag("b")}, 0, api.ErrLimit},
		{[]api.Directive{flag(strings.Repeat("a", 1<<20))}, 0, api.ErrLimit},
		{[]api.Directive{pair("a", strings.Repeat("b ", 1<<20))}, 0, api.ErrLimit},
		{[]api.Directive{flag(strings.Repeat("a", n+1)), flag("B")}, 0, api.ErrInvalid},             // before: the size
		{[]api.Directive{pair("a", strings.Repeat("b", n)+"\n")}, 0, api.ErrInvalid},                // before: the size
		{append([]api.Directive{flag(strings.Repeat("a", n+1))}, list...), 0, api.ErrInvalid},       // before: the size
		{append(slices.Clone(list), flag(strings.Repeat("a", n+1)))[1:], 0, api.ErrLimit},           // 32 elements
		{append(slices.Clone(list), api.Directive{Name: "a", Value: "b"})[1:], 0, api.ErrInvalid},   // 32 elements
		{slices.Repeat([]api.Directive{pair("a", strings.Repeat("b", n/32-4))}, 32), n - 2, api.OK}, // 32 elements
	} {
		if got := Valid(c.l); got != (c.err != api.ErrInvalid) {
			t.Errorf("Valid(%+.99v) = %v", c.l, got)
		}
		if got, err := Format(c.l); len(got) != c.size || err != c.err {
			t.Errorf("Format(%+.99v) has %d bytes, %d, want %d, %d", c.l, len(got), err, c.size, c.err)
		}
		checkFormat(t, c.l)
	}
}

// P18.2: every byte in each place of a name and of a value, with and without HasValue, and all short names and values.
func TestFormatOfAllBytesAndShortValues(t *testing.T) {
	for b := range 256 {
		c := string([]byte{byte(b)})
		for _, s := range []string{c, c + "ab", "a" + c + "b", "ab" + c, c + c} {
			checkFormat(t, []api.Directive{flag(s)})
			checkFormat(t, []api.Directive{pair(s, "a"), flag("a")})
			checkFormat(t, []api.Directive{flag("a"), pair("a", s)})
			checkFormat(t, []api.Directive{{Name: "a", Value: s}})
		}
	}
	texts([]string{"a", "B", "=", ";", " ", `"`, `\`, "\xFF", "\x00"}, 4, func(s string) {
		checkFormat(t, []api.Directive{flag(s)})
		checkFormat(t, []api.Directive{pair("a", s), pair("b", s)})
		checkFormat(t, []api.Directive{{Name: "a", Value: s}})
	})
}

// P18.1, P18.2: random texts and lists.
func TestRandomTexts(t *testing.T) {
	random := rand.New(rand.NewSource(18))
	fragments := []string{"a", "Bc", "max-age", "=", "=", ";", ";", " ", "\t", `"`, `"`, `\`, `"x;y"`, "=1;", `="z";`, "\x80"}
	text := func(size int) string {
		var s strings.Builder
		for range random.Intn(size) {
			s.WriteString(fragments[random.Intn(len(fragments))])
			if random.Intn(60) == 0 {
				s.WriteByte(byte(random.Intn(256)))
			}
		}
		return s.String()
	}
	for range 20000 {
		checkParse(t, text(16))
		var list []api.Directive
		for range random.Intn(5) {
			d := flag([]string{"a", "max-age", "x.y", text(3)}[random.Intn(4)])
			if d.HasValue = random.Intn(2) == 0; d.HasValue || random.Intn(20) == 0 {
				d.Value = text(6)
			}
			list = append(list, d)
		}
		checkFormat(t, list)
	}
	for range 500 {
		checkParse(t, strings.Repeat("a=1;"+text(4)+";", random.Intn(50)))
	}
}

// P18.1: the examples of the chapter.
func TestExamples(t *testing.T) {
	list, err := Parse(" max-age = \"60\" ;; includeSubDomains")
	if want := []api.Directive{pair("max-age", "60"), flag("includesubdomains")}; !slices.Equal(list, want) || err != api.OK {
		t.Errorf("%+v, %d", list, err)
	}
	for _, s := range []string{"a=", "a b", `a="x`} {
		if list, err := Parse(s); list != nil || err != api.ErrSyntax {
			t.Errorf("Parse(%q) = %+v, %d", s, list, err)
		}
	}
	if list, err := Parse(""); len(list) != 0 || err != api.OK {
		t.Errorf("%+v, %d", list, err)
	}
}

// P18.1, P18.2: the results share no memory with the arguments, nor with one another, and arguments are not modified.
func TestMemory(t *testing.T) {
	const text = `name=token; other="a \"quoted\" value"; includeSubDomains`
	want, _ := parseByDefinition(text)
	s := copied(text)
	first, _ := Parse(s)
	second, _ := Parse(s)
	if s != text {
		t.Error("Parse changes its argument")
	}
	overwrite(s)
	if !slices.Equal(first, want) || !slices.Equal(second, want) {
		t.Errorf("Parse returns parts of its argument: %+v, %+v", first, second)
	}
	for _, d := range first {
		overwrite(d.Name)
		overwrite(d.Value)
	}
	clear(first[:cap(first)])
	if !slices.Equal(second, want) {
		t.Error("two results of Parse share memory")
	}
	list := append(make([]api.Directive, 0, 8), flag(copied("alone")))
	spare := list[:8]
	spare[1] = flag("spare")
	before, _ := Format(list)
	again, _ := Format(list)
	if !slices.Equal(spare[:2], []api.Directive{flag("alone"), flag("spare")}) || !Valid(list) {
		t.Error("Format changes its argument")
	}
	overwrite(list[0].Name)
	overwrite(before)
	if again != "alone" {
		t.Error("Format returns shared memory")
	}
}

// overwrite replaces all bytes of s, which must not be a constant.
func overwrite(s string) {
	clear(unsafe.Slice(unsafe.StringData(s), len(s)))
}

// copied returns a copy of s that can be overwritten.
func copied(s string) string { return string([]byte(s)) }
