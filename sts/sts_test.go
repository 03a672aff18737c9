package sts

import (
	"fmt"
	"math"
	"math/big"
	"math/rand"
	"regexp"
	"slices"
	"strings"
	"testing"

	"hstsstore/api"
	"hstsstore/directive"
)

var digits = regexp.MustCompile(`^[0-9]+$`)

// period returns the period that the digits of a value denote, or -1.
func period(value string) int {
	if !digits.MatchString(value) {
		return -1
	}
	n, _ := new(big.Int).SetString(value, 10)
	if n.Cmp(big.NewInt(api.MaxAge)) > 0 {
		return api.MaxAge
	}
	return int(n.Int64())
}

// parseByDefinition returns the results of Parse by the definition.
func parseByDefinition(s string) (api.Policy, api.Errno) {
	list, e := directive.Parse(s)
	if e != api.OK {
		return api.Policy{}, e
	}
	for i, d := range list {
		if slices.ContainsFunc(list[:i], func(other api.Directive) bool { return other.Name == d.Name }) {
			return api.Policy{}, api.ErrDuplicate
		}
	}
	var p api.Policy
	missing, wrong := true, false
	for _, d := range list {
		switch d.Name {
		case "max-age":
			missing = false
			p.MaxAge = period(d.Value)
			wrong = wrong || !d.HasValue || p.MaxAge < 0
		case "includesubdomains":
			p.IncludeSub = true
			wrong = wrong || d.HasValue
		}
	}
	switch {
	case wrong:
		return api.Policy{}, api.ErrForm
	case missing:
		return api.Policy{}, api.ErrMissing
	}
	return p, api.OK
}

// formatByDefinition returns the results of Format by the definition.
func formatByDefinition(p api.Policy) (string, api.Errno) {
	if p.MaxAge < 0 || p.MaxAge > api.MaxAge {
		return "", api.ErrRange
	}
	return fmt.Sprintf("max-age=%d%s", p.MaxAge, map[bool]string{true: "; includeSubDomains"}[p.IncludeSub]), api.OK
}

func checkParse(t *testing.T, s string) {
	t.Helper()
	got, e := Parse(s)
	want, wantErr := parseByDefinition(s)
	if got != want || e != wantErr {
		t.Errorf("Parse(%.200q) is %+v and %d, not %+v and %d", s, got, e, want, wantErr)
	}
}

func checkFormat(t *testing.T, p api.Policy) {
	t.Helper()
	got, e := Format(p)
	want, wantErr := formatByDefinition(p)
	if got != want || e != wantErr {
		t.Errorf("Format(%+v) is %q and %d, not %q and %d", p, got, e, want, wantErr)
	}
	if e != api.OK {
		return
	}
	if back, e := Parse(got); back != p || e != api.OK {
		t.Errorf("Parse(%q) is %+v and %d", got, back, e)
	}
}

// texts calls f with each text of up to n fragments, joined by separator.
func texts(fragments []string, n int, separator string, f func(s string)) {
	var extend func(list []string)
	extend = func(list []string) {
		f(strings.Join(list, separator))
		if len(list) == n {
			return
		}
		for _, fragment := range fragments {
			extend(append(list[:len(list):len(list)], fragment))
		}
	}
	extend(nil)
}

// P19.1: the period is that of max-age, IncludeSub tells whether there is includesubdomains, and all other directives are ignored.
func TestParseOfPolicies(t *testing.T) {
	for _, c := range []struct {
		s   string
		age int
		sub bool
	}{
		{"max-age=0", 0, false},
		{"max-age=1", 1, false},
		{"max-age=31536000", 31536000, false},
		{`max-age="31536000"`, 31536000, false},
		{`max-age="3\1\5"`, 315, false},
		{"max-age=00000000000000000000000000000017", 17, false},
		{"max-age=2147483646", api.MaxAge - 1, false},
		{"max-age=2147483647", api.MaxAge, false},
		{"max-age=2147483648", api.MaxAge, false},
		{"max-age=99999999999999999999999999999999", api.MaxAge, false},
		{"MAX-AGE=5", 5, false},
		{"Max-Age=5", 5, false},
		{"max-age=5;includesubdomains", 5, true},
		{"max-age=5;INCLUDESUBDOMAINS", 5, true},
		{"max-age=5; includeSubDomains", 5, true},
		{"includeSubDomains; max-age=5", 5, true},
		{"includeSubDomains;max-age=0", 0, true},
		{"\t max-age \t=\t 5 \t;\t includeSubDomains \t", 5, true},
		{";;max-age=5; ;includeSubDomains;\t;", 5, true},
		{"max-age=5; preload", 5, false},
		{"preload; max-age=5", 5, false},
		{"max-age=5; preload=1; includeSubDomains; x=\"max-age=6; includeSubDomains\"", 5, true},
		{"max-age=5; x=\"; includeSubDomains\"", 5, false},
		{"max-age=5; x=includeSubDomains", 5, false},
		{"max-age=5; maxage=6; max-age2=7; max_age=8; xmax-age=9; age=10; max=11; max-ag=12", 5, false},
		{"max-age=5; includesubdomain; include-sub-domains; includesubdomains2=1; subdomains; includeSub", 5, false},
		{"max-age=5; a=1; b=1; c; d", 5, false},
	} {
		if got, e := Parse(c.s); got != (api.Policy{MaxAge: c.age, IncludeSub: c.sub}) || e != api.OK {
			t.Errorf("Parse(%q) is %+v and %d", c.s, got, e)
		}
		checkParse(t, c.s)
	}
}

// P19.1: each error alone, and the first one where several apply.
func TestParseErrors(t *testing.T) {
	for _, c := range []struct {
		s string
		e api.Errno
	}{
		{"max-age=1,", api.ErrSyntax},
		{"max-age=1 includeSubDomains", api.ErrSyntax},
		{"max-age=", api.ErrSyntax},
		{"max-age=;", api.ErrSyntax},
		{"max-age==1", api.ErrSyntax},
		{"max-age=1=1", api.ErrSyntax},
		{`max-age="1`, api.ErrSyntax},
		{`max-age='1"`, api.ErrSyntax},
		{"=1", api.ErrSyntax},
		{"max-age=1; max-age=1", api.ErrDuplicate},
		{"max-age=1; Max-Age=2", api.ErrDuplicate},
		{"max-age=1; max-age", api.ErrDuplicate},
		{`max-age=1; max-age="1"`, api.ErrDuplicate},
		{"max-age=1; includeSubDomains; includesubdomains", api.ErrDuplicate},
		{"max-age=1; preload; preload", api.ErrDuplicate},
		{"max-age=1; preload; PRELOAD=1", api.ErrDuplicate},
		{"x=1; max-age=1; y=1; includeSubDomains; X=2", api.ErrDuplicate},
		{"max-age", api.ErrForm},
		{`max-age=""`, api.ErrForm},
		{"max-age=-1", api.ErrForm},
		{"max-age=+1", api.ErrForm},
		{"max-age=1.5", api.ErrForm},
		{"max-age=0x1", api.ErrForm},
		{"max-age=1e3", api.ErrForm},
		{"max-age=1_000", api.ErrForm},
		{"max-age='1'", api.ErrForm},
		{`max-age=" 1"`, api.ErrForm},
		{`max-age="1 "`, api.ErrForm},
		{`max-age="1;"`, api.ErrForm},
		{`max-age="\"1\""`, api.ErrForm},
		{"max-age=includeSubDomains", api.ErrForm},
		{"max-age=\"\xD9\xA1\"", api.ErrForm},
		{"max-age=1; includeSubDomains=1", api.ErrForm},
		{"max-age=1; includeSubDomains=true", api.ErrForm},
		{`max-age=1; includeSubDomains=""`, api.ErrForm},
		{`includeSubDomains="max-age=1"`, api.ErrForm},
		{"", api.ErrMissing},
		{" ;\t; ", api.ErrMissing},
		{"includeSubDomains", api.ErrMissing},
		{"preload; includeSubDomains", api.ErrMissing},
		{"maxage=1", api.ErrMissing},
		{`x="max-age=1"`, api.ErrMissing},
		// Several errors.
		{"a; a; =", api.ErrSyntax},
		{"max-age=x; max-age; =", api.ErrSyntax},
		{"includeSubDomains=1; =", api.ErrSyntax},
		{"max-age; max-age", api.ErrDuplicate},
		{"max-age=x; a; A", api.ErrDuplicate},
		{"includeSubDomains=1; includeSubDomains", api.ErrDuplicate},
		{"includeSubDomains; includeSubDomains", api.ErrDuplicate},
		{"a; a", api.ErrDuplicate},
		{"includeSubDomains=1", api.ErrForm},
		{"max-age=x; includeSubDomains=1", api.ErrForm},
	} {
		if got, e := Parse(c.s); got != (api.Policy{}) || e != c.e {
			t.Errorf("Parse(%q) is %+v and %d, not %d", c.s, got, e, c.e)
		}
		checkParse(t, c.s)
	}
}

// P19.1: all lists of up to four elements, so that each error occurs before, between and behind the others.
func TestParseOfAllShortLists(t *testing.T) {
	fragments := []string{
		"max-age=7", ` MAX-AGE = "08" `, "max-age", `max-age=""`, "max-age=x", "includeSubDomains",
		"INCLUDESUBDOMAINS ", "includesubdomains=0", `includesubdomains=""`, "preload", `Preload="1"`, "other=max-age", "", "a b",
	}
	texts(fragments, 4, ";", func(s string) { checkParse(t, s) })
}

// P19.1: all short texts of parts of directives.
func TestParseOfShortTexts(t *testing.T) {
	texts([]string{"max-age", "includeSubDomains", "=", ";", `"`, "1", "9999999999", " ", "x", "\\"}, 5, "", func(s string) { checkParse(t, s) })
}

// P19.1: each byte at each place of a field, and instead of each byte.
func TestParseWithEachByte(t *testing.T) {
	for _, s := range []string{"max-age=1;includeSubDomains;x=2", `includesubdomains;max-age="12"`} {
		for i := range len(s) {
			for b := range 256 {
				checkParse(t, s[:i]+string([]byte{byte(b)})+s[i:])
				checkParse(t, s[:i]+string([]byte{byte(b)})+s[i+1:])
			}
		}
	}
}

// P19.1: the case of the names does not matter.
func TestParseInAllCases(t *testing.T) {
	const lower = "max-age=3;includesubdomains"
	random := rand.New(rand.NewSource(19))
	for range 2000 {
		s := []byte(lower)
		for i, b := range s {
			if 'a' <= b && b <= 'z' && random.Intn(2) == 0 {
				s[i] = b - 'a' + 'A'
			}
		}
		if got, e := Parse(string(s)); got != (api.Policy{MaxAge: 3, IncludeSub: true}) || e != api.OK {
			t.Errorf("Parse(%q) is %+v and %d", s, got, e)
		}
	}
	// Letters and digits that only Unicode takes for those of the names and of periods are no token characters.
	for _, s := range []string{"max-age=3;include\u017Fubdomains", "m\u0410x-age=3", "max-age=\u0663"} {
		if got, e := Parse(s); got != (api.Policy{}) || e != api.ErrSyntax {
			t.Errorf("Parse(%q) is %+v and %d", s, got, e)
		}
	}
}

// P19.1: the order of the directives does not matter.
func TestParseInAnyOrder(t *testing.T) {
	list := []string{"max-age=3", "includeSubDomains", "preload", "", "a=\"b\""}
	random := rand.New(rand.NewSource(191))
	for range 500 {
		random.Shuffle(len(list), func(i, j int) { list[i], list[j] = list[j], list[i] })
		s := strings.Join(list, ";")
		if got, e := Parse(s); got != (api.Policy{MaxAge: 3, IncludeSub: true}) || e != api.OK {
			t.Errorf("Parse(%q) is %+v and %d", s, got, e)
		}
	}
}

// P19.1: the limits are those of directive.Parse, and their error comes before all others.
func TestParseLimits(t *testing.T) {
	var names []string
	for i := range api.MaxDirectives - 2 {
		names = append(names, fmt.Sprintf("x%d", i))
	}
	many := strings.Join(names, ";") // Two directives less than there may be.
	for _, c := range []struct {
		s   string
		age int
		sub bool
		e   api.Errno
	}{
		{"max-age=" + strings.Repeat("0", api.MaxHeader-9) + "7", 7, false, api.OK},
		{"max-age=" + strings.Repeat("9", api.MaxHeader-8), api.MaxAge, false, api.OK},
		{"max-age=" + strings.Repeat("9", api.MaxHeader-7), 0, false, api.ErrLimit},
		{"max-age=1;" + strings.Repeat(" ", api.MaxHeader-10), 1, false, api.OK},
		{"max-age=1;" + strings.Repeat(" ", api.MaxHeader-9), 0, false, api.ErrLimit},
		{"max-age=1;" + strings.Repeat(";", api.MaxHeader-10), 1, false, api.OK},
		{"a;a;max-age=x;=" + strings.Repeat(" ", api.MaxHeader), 0, false, api.ErrLimit},
		{many + ";max-age=1;includeSubDomains", 1, true, api.OK},
		{many + ";max-age=1;;;includeSubDomains;;", 1, true, api.OK},
		{many + ";max-age=1;includeSubDomains;y", 0, false, api.ErrLimit},
		{many + ";max-age=1;includeSubDomains;=", 0, false, api.ErrLimit},
		{many + ";max-age=1;=;y", 0, false, api.ErrSyntax},
		{many + ";x0;max-age=1;y", 0, false, api.ErrLimit},
		{many + ";max-age=x;includeSubDomains=1;y", 0, false, api.ErrLimit},
		{many + ";y;z;max-age=1", 0, false, api.ErrLimit},
		{many + ";y;max-age=1", 1, false, api.OK},
		{many + ";max-age=1;x0", 0, false, api.ErrDuplicate},
		{many + ";max-age=1;" + names[len(names)-1], 0, false, api.ErrDuplicate},
		{many + ";y;z", 0, false, api.ErrMissing},
		{strings.Repeat("a;", api.MaxDirectives), 0, false, api.ErrDuplicate},
		{strings.Repeat("a;", api.MaxDirectives+1), 0, false, api.ErrLimit},
	} {
		if got, e := Parse(c.s); got != (api.Policy{MaxAge: c.age, IncludeSub: c.sub}) || e != c.e {
			t.Errorf("Parse(%.60q, %d bytes) is %+v and %d, not %d", c.s, len(c.s), got, e, c.e)
		}
		checkParse(t, c.s)
	}
}

// P19.1: random lists of elements of all kinds.
func TestParseOfRandomTexts(t *testing.T) {
	random := rand.New(rand.NewSource(1901))
	fragments := []string{
		"max-age=", "max-age", "Max-Age =", "max-age=4;", "includeSubDomains", "; includeSubDomains;", "includesubdomains=", ";", ";", ";", "; ", "=", `"`, `"`, "\\",
		"0", "12", "2147483647", "2147483648", `"5"`, "preload", "x", "y=z", " ", "\t", "\x00", "\x80", "\u00e9", ",",
	}
	accepted := 0
	for range 100000 {
		var text strings.Builder
		for range random.Intn(9) {
			text.WriteString(fragments[random.Intn(len(fragments))])
		}
		checkParse(t, text.String())
		if _, e := Parse(text.String()); e == api.OK {
			accepted++
		}
	}
	if accepted < 1000 {
		t.Errorf("only %d texts were accepted", accepted)
	}
}

// P19.2: periods within and outside the range, with and without subdomains.
func TestFormat(t *testing.T) {
	ages := []int{
		math.MinInt, math.MinInt + 1, math.MinInt32, -api.MaxAge, -2, -1, 0, 1, 2, 9, 10, 99, 100, 31536000, 63072000,
		api.MaxAge - 1, api.MaxAge, api.MaxAge + 1, 1 << 32, 1<<32 + 5, api.MaxTime, 1 << 62, math.MaxInt - 1, math.MaxInt,
	}
	random := rand.New(rand.NewSource(192))
	for range 20000 {
		ages = append(ages, int(random.Uint64()>>random.Intn(64)))
	}
	for _, age := range ages {
		checkFormat(t, api.Policy{MaxAge: age})
		checkFormat(t, api.Policy{MaxAge: age, IncludeSub: true})
	}
}

// P19.2: all small periods, of which Format writes each digit and no leading zero.
func TestFormatOfSmallPeriods(t *testing.T) {
	for age := -10; age < 12000; age++ {
		checkFormat(t, api.Policy{MaxAge: age, IncludeSub: age%2 == 0})
	}
}

// P19.1 and P19.2: the examples of the chapter.
func TestExamples(t *testing.T) {
	for _, c := range []struct {
		s string
		p api.Policy
		e api.Errno
	}{
		{"max-age=\"31536000\"; IncludeSubDomains; preload", api.Policy{MaxAge: 31536000, IncludeSub: true}, api.OK},
		{"includeSubDomains", api.Policy{}, api.ErrMissing},
		{"max-age=1; MAX-AGE=1", api.Policy{}, api.ErrDuplicate},
		{"max-age=1; includeSubDomains=1", api.Policy{}, api.ErrForm},
		{"max-age=9999999999", api.Policy{MaxAge: 2147483647}, api.OK},
		{"max-age=31536000; includeSubDomains", api.Policy{MaxAge: 31536000, IncludeSub: true}, api.OK},
	} {
		if got, e := Parse(c.s); got != c.p || e != c.e {
			t.Errorf("Parse(%q) is %+v and %d", c.s, got, e)
		}
	}
	if text, e := Format(api.Policy{MaxAge: 31536000, IncludeSub: true}); text != "max-age=31536000; includeSubDomains" || e != api.OK {
		t.Errorf("Format is %q and %d", text, e)
	}
}
