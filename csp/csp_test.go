package csp

import (
	"fmt"
	"math/rand"
	"regexp"
	"slices"
	"strings"
	"testing"
	"unsafe"

	"hstsstore/api"
)

// word is the first word of a directive: spaces are the five bytes of chapter 1.
var word = regexp.MustCompile(`[^ \t\n\f\r]+`)

// lowered returns s with the letters of ASCII in lower case.
func lowered(s string) string {
	const upper, lower = "ABCDEFGHIJKLMNOPQRSTUVWXYZ", "abcdefghijklmnopqrstuvwxyz"
	b := []byte(s)
	for i := range b {
		if at := strings.IndexByte(upper, b[i]); at >= 0 {
			b[i] = lower[at]
		}
	}
	return string(b)
}

// parseByDefinition returns the results of Parse by the definition.
func parseByDefinition(value string) (api.CSP, api.Errno) {
	if len(value) > api.MaxHeader {
		return api.CSP{}, api.ErrLimit
	}
	var c api.CSP
	for _, policy := range strings.Split(value, ",") {
		for _, directive := range strings.Split(policy, ";") {
			if first := word.FindStringIndex(directive); first != nil {
				c = with(c, lowered(directive[first[0]:first[1]]))
			}
		}
	}
	return c, api.OK
}

// mergeByDefinition returns the results of Merge by the definition.
func mergeByDefinition(values []string) (api.CSP, api.Errno) {
	var all api.CSP
	for _, value := range values {
		c, e := parseByDefinition(value)
		if e != api.OK {
			return api.CSP{}, e
		}
		for _, name := range c.Names {
			all = with(all, name)
		}
	}
	return all, api.OK
}

// with returns c with one more name, unless it is there already.
func with(c api.CSP, name string) api.CSP {
	if !slices.Contains(c.Names, name) {
		c.Names = append(c.Names, name)
	}
	c.Upgrade = c.Upgrade || name == "upgrade-insecure-requests"
	c.BlockAll = c.BlockAll || name == "block-all-mixed-content"
	return c
}

func same(a, b api.CSP) bool {
	return a.Upgrade == b.Upgrade && a.BlockAll == b.BlockAll && slices.Equal(a.Names, b.Names)
}

func checkParse(t *testing.T, value string) {
	t.Helper()
	got, e := Parse(value)
	want, wantErr := parseByDefinition(value)
	if !same(got, want) || e != wantErr {
		t.Errorf("Parse(%.200q) is %+v and %d, not %+v and %d", value, got, e, want, wantErr)
	}
}

// checkMerge checks Merge, and that the values joined by commas have the same result.
func checkMerge(t *testing.T, values []string) {
	t.Helper()
	got, e := Merge(values)
	want, wantErr := mergeByDefinition(values)
	if !same(got, want) || e != wantErr {
		t.Errorf("Merge(%.200q) is %+v and %d, not %+v and %d", values, got, e, want, wantErr)
	}
	if joined := strings.Join(values, ","); len(joined) <= api.MaxHeader {
		if got, e := Parse(joined); !same(got, want) || e != api.OK {
			t.Errorf("Parse(%.200q) is %+v and %d, not %+v", joined, got, e, want)
		}
	}
}

// lists calls f with each list of up to n fragments.
func lists(fragments []string, n int, f func(list []string)) {
	var extend func(list []string)
	extend = func(list []string) {
		f(list)
		if len(list) == n {
			return
		}
		for _, fragment := range fragments {
			extend(append(list[:len(list):len(list)], fragment))
		}
	}
	extend(nil)
}

// P20.1: the names in the order of their first occurrence, each once, and the two that concern insecure requests.
func TestParse(t *testing.T) {
	const upgrade, block = "upgrade-insecure-requests", "block-all-mixed-content"
	for _, c := range []struct {
		value    string
		upgrade  bool
		blockAll bool
		names    []string
	}{
		{"", false, false, nil},
		{" \t\r\n\f", false, false, nil},
		{";", false, false, nil},
		{",", false, false, nil},
		{" ; ;\t, \n;,;", false, false, nil},
		{"a", false, false, []string{"a"}},
		{"b;a", false, false, []string{"b", "a"}},
		{"b,a", false, false, []string{"b", "a"}},
		{"c;b,a;c;b", false, false, []string{"c", "b", "a"}},
		{"b;a;B;A;c", false, false, []string{"b", "a", "c"}},
		{"b x;a y;b z", false, false, []string{"b", "a"}},
		{"a b;b a", false, false, []string{"a", "b"}},
		{"\n a\tb", false, false, []string{"a"}},
		{"\fA\f;\rB\r", false, false, []string{"a", "b"}},
		{"a\vb", false, false, []string{"a\vb"}},
		{"\v", false, false, []string{"\v"}},
		{"\u00a0a", false, false, []string{"\u00a0a"}},
		{"\x00", false, false, []string{"\x00"}},
		{"\xC4\xD6;\xE4\xF6", false, false, []string{"\xC4\xD6", "\xE4\xF6"}},
		{`a "b;c,d"`, false, false, []string{"a", "c", `d"`}},
		{"a=b", false, false, []string{"a=b"}},
		{upgrade, true, false, []string{upgrade}},
		{block, false, true, []string{block}},
		{upgrade + ";" + block, true, true, []string{upgrade, block}},
		{block + "," + upgrade, true, true, []string{block, upgrade}},
		{"UPGRADE-INSECURE-REQUESTS", true, false, []string{upgrade}},
		{"Block-All-Mixed-Content", false, true, []string{block}},
		{upgrade + " 'none'", true, false, []string{upgrade}},
		{block + " x y", false, true, []string{block}},
		{"a;b;c, d;" + upgrade, true, false, []string{"a", "b", "c", "d", upgrade}},
		{upgrade + ";" + upgrade, true, false, []string{upgrade}},
		{"a " + upgrade, false, false, []string{"a"}},
		{"a " + block, false, false, []string{"a"}},
		{upgrade + "-x", false, false, []string{upgrade + "-x"}},
		{"x-" + upgrade, false, false, []string{"x-" + upgrade}},
		{upgrade + "=1", false, false, []string{upgrade + "=1"}},
		{block + ":", false, false, []string{block + ":"}},
		{"upgrade-insecure-request", false, false, []string{"upgrade-insecure-request"}},
		{"upgrade_insecure_requests", false, false, []string{"upgrade_insecure_requests"}},
		{"upgrade insecure-requests", false, false, []string{"upgrade"}},
		{"upgrade-in\u017Fecure-requests", false, false, []string{"upgrade-in\u017Fecure-requests"}},
		{"bloc\u212A-all-mixed-content", false, false, []string{"bloc\u212A-all-mixed-content"}},
		{`"` + upgrade + `"`, false, false, []string{`"` + upgrade + `"`}},
	} {
		want := api.CSP{Upgrade: c.upgrade, BlockAll: c.blockAll, Names: c.names}
		if got, e := Parse(c.value); !same(got, want) || e != api.OK {
			t.Errorf("Parse(%q) is %+v and %d", c.value, got, e)
		}
		checkParse(t, c.value)
	}
}

// P20.1: all short texts of names, separators and spaces.
func TestParseOfShortTexts(t *testing.T) {
	fragments := []string{"upgrade-insecure-requests", "Block-All-Mixed-Content", "a", "B", "b", ";", ",", " ", "\n"}
	lists(fragments, 6, func(list []string) { checkParse(t, strings.Join(list, "")) })
}

// P20.1: each byte at each place of a value, and instead of each byte.
func TestParseWithEachByte(t *testing.T) {
	for _, value := range []string{"upgrade-insecure-requests;block-all-mixed-content", "x y;A,a b", ";, "} {
		for i := range len(value) + 1 {
			for b := range 256 {
				checkParse(t, value[:i]+string([]byte{byte(b)})+value[i:])
				if i < len(value) {
					checkParse(t, value[:i]+string([]byte{byte(b)})+value[i+1:])
				}
			}
		}
	}
}

// P20.1: the limit, whatever the value consists of.
func TestParseLimit(t *testing.T) {
	for _, fragment := range []string{"a", ";", ",", " ", "A b;", "upgrade-insecure-requests,", "\x80", "\x00;"} {
		long := strings.Repeat(fragment, api.MaxHeader+2)
		for _, n := range []int{api.MaxHeader - 1, api.MaxHeader, api.MaxHeader + 1, api.MaxHeader + 2} {
			checkParse(t, long[:n])
		}
		if got, e := Parse(long[:api.MaxHeader]); e != api.OK {
			t.Errorf("%q: %+v and %d", fragment, got, e)
		}
		if got, e := Parse(long[:api.MaxHeader+1]); !same(got, api.CSP{}) || e != api.ErrLimit {
			t.Errorf("%q: %+v and %d", fragment, got, e)
		}
	}
}

// P20.1: there is no limit to the number of directives but that of the bytes.
func TestParseOfManyDirectives(t *testing.T) {
	var names []string
	size := 0
	for i := 0; ; i++ {
		name := fmt.Sprintf("%x", i)
		if size += len(name) + 1; size > api.MaxHeader {
			break
		}
		names = append(names, name)
	}
	if got, e := Parse(strings.Join(names, ";")); !slices.Equal(got.Names, names) || e != api.OK {
		t.Errorf("%d names and %d, not %d", len(got.Names), e, len(names))
	}
}

// P20.2: the names of all values in the order of their first occurrence, each once.
func TestMerge(t *testing.T) {
	const upgrade, block = "upgrade-insecure-requests", "block-all-mixed-content"
	for _, c := range []struct {
		values []string
		want   api.CSP
	}{
		{nil, api.CSP{}},
		{[]string{}, api.CSP{}},
		{[]string{"", " ", ";,"}, api.CSP{}},
		{[]string{"a"}, api.CSP{Names: []string{"a"}}},
		{[]string{"b", "a", "c"}, api.CSP{Names: []string{"b", "a", "c"}}},
		{[]string{"b;a", "c;A,d", "", "B x"}, api.CSP{Names: []string{"b", "a", "c", "d"}}},
		{[]string{"a", upgrade}, api.CSP{Upgrade: true, Names: []string{"a", upgrade}}},
		{[]string{upgrade, "a"}, api.CSP{Upgrade: true, Names: []string{upgrade, "a"}}},
		{[]string{block, upgrade}, api.CSP{Upgrade: true, BlockAll: true, Names: []string{block, upgrade}}},
		{[]string{block, "", block}, api.CSP{BlockAll: true, Names: []string{block}}},
		// Values are not parts of one another's directives.
		{[]string{"upgrade-insecure-", "requests"}, api.CSP{Names: []string{"upgrade-insecure-", "requests"}}},
		{[]string{"a", " " + upgrade}, api.CSP{Upgrade: true, Names: []string{"a", upgrade}}},
	} {
		if got, e := Merge(c.values); !same(got, c.want) || e != api.OK {
			t.Errorf("Merge(%q) is %+v and %d", c.values, got, e)
		}
		checkMerge(t, c.values)
	}
}

// P20.2: all lists of up to four values.
func TestMergeOfShortLists(t *testing.T) {
	values := []string{
		"", ";", "a", "A;b", "b,c", "c x", "upgrade-insecure-requests", "d;Block-All-Mixed-Content y",
		"x upgrade-insecure-requests", strings.Repeat(" ", api.MaxHeader+1),
	}
	lists(values, 4, func(list []string) { checkMerge(t, list) })
}

// P20.2: the limit is that of each value, not that of all of them, and nothing else is returned with the error.
func TestMergeLimit(t *testing.T) {
	long := strings.Repeat("a", api.MaxHeader)
	full := []string{long, long, "b;upgrade-insecure-requests", strings.Repeat("c;", api.MaxHeader/2)}
	want := api.CSP{Upgrade: true, Names: []string{long, "b", "upgrade-insecure-requests", "c"}}
	if got, e := Merge(full); !same(got, want) || e != api.OK {
		t.Errorf("%d names and %d", len(got.Names), e)
	}
	for i := range len(full) + 1 {
		values := slices.Insert(slices.Clone(full), i, long+" ")
		if got, e := Merge(values); !same(got, api.CSP{}) || e != api.ErrLimit {
			t.Errorf("too long at %d: %d names and %d", i, len(got.Names), e)
		}
		checkMerge(t, values)
	}
	// Many values with many names.
	var values, names []string
	for i := range 20000 {
		name := fmt.Sprintf("name-%d", i)
		names = append(names, name)
		values = append(values, name+",name-"+fmt.Sprint(i/2))
	}
	if got, e := Merge(values); !slices.Equal(got.Names, names) || e != api.OK {
		t.Errorf("%d names and %d", len(got.Names), e)
	}
}

// P20.1 and P20.2: random values and lists of them.
func TestRandomTexts(t *testing.T) {
	random := rand.New(rand.NewSource(20))
	fragments := []string{
		"upgrade-insecure-requests", "block-all-mixed-content", "UPGRADE-insecure-requests", "Block-all-mixed-contenT", "default-src 'self'",
		"img-src *", "a", "B", "b", "\x80", "\xC4", "\v", "\x00", ";", ";", "; ", ",", ",", ", ", " ", "\t", "\n", "\f", "\r", "-", `"`,
	}
	for range 50000 {
		var values []string
		for range random.Intn(4) {
			var text strings.Builder
			for range random.Intn(9) {
				text.WriteString(fragments[random.Intn(len(fragments))])
			}
			values = append(values, text.String())
			checkParse(t, text.String())
		}
		checkMerge(t, values)
	}
}

// Rule 8: the iterators can be left early and used again.
func TestIterators(t *testing.T) {
	const value = "a x; b,,C;a"
	want := []string{"a", "b", "c", "a"}
	sequence := names(value)
	for n := range len(want) + 1 {
		var got []string
		for name := range sequence {
			if len(got) == n {
				break
			}
			got = append(got, name)
		}
		if !slices.Equal(got, want[:n]) {
			t.Errorf("the first %d names are %q", n, got)
		}
	}
	for s, want := range map[string][]string{"": {""}, ",": {"", ""}, "a": {"a"}, "a,b;c,": {"a", "b;c", ""}} {
		sequence := parts(s, comma)
		for range 2 {
			if got := slices.Collect(sequence); !slices.Equal(got, want) {
				t.Errorf("the parts of %q are %q", s, got)
			}
		}
		for range sequence {
			break
		}
	}
}

// overwrite replaces all bytes of s, which must not be a constant.
func overwrite(s string) {
	clear(unsafe.Slice(unsafe.StringData(s), len(s)))
}

// Rule 2: the results share no memory with the arguments, nor with one another, and arguments are not changed.
func TestMemory(t *testing.T) {
	values := []string{strings.Clone("one two;three,ONE"), strings.Clone("four;upgrade-insecure-requests;three")}
	want := api.CSP{Upgrade: true, Names: []string{"one", "three", "four", "upgrade-insecure-requests"}}
	kept := slices.Clone(values)
	first, _ := Merge(values)
	second, _ := Merge(values)
	if !slices.Equal(values, kept) || values[0] != "one two;three,ONE" {
		t.Errorf("the arguments are now %q", values)
	}
	parsed, _ := Parse(values[0])
	for _, name := range first.Names {
		overwrite(name)
	}
	first.Names = append(first.Names[:0], "x", "x", "x", "x")
	if !same(second, want) {
		t.Errorf("two results share memory: %+v", second)
	}
	overwrite(values[0])
	overwrite(values[1])
	if !same(second, want) || !slices.Equal(parsed.Names, want.Names[:2]) {
		t.Errorf("results and arguments share memory: %+v and %+v", second, parsed)
	}
}

// P20.1 and P20.2: the examples of the chapter.
func TestExamples(t *testing.T) {
	want := api.CSP{Upgrade: true, Names: []string{"default-src", "upgrade-insecure-requests", "img-src"}}
	const value = "default-src 'self'; Upgrade-Insecure-Requests, img-src *"
	if got, e := Parse(value); !same(got, want) || e != api.OK {
		t.Errorf("Parse(%q) is %+v and %d", value, got, e)
	}
	if got, e := Parse(";;,"); !same(got, api.CSP{}) || e != api.OK {
		t.Errorf("Parse of separators is %+v and %d", got, e)
	}
	if got, e := Merge([]string{"default-src 'self'; Upgrade-Insecure-Requests", "img-src *"}); !same(got, want) || e != api.OK {
		t.Errorf("Merge is %+v and %d", got, e)
	}
}
