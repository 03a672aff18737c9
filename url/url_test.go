package url

import (
	"fmt"
	"math"
	"math/big"
	"math/rand"
	"regexp"
	"slices"
	"strings"
	"testing"
	"unsafe"

	"hstsstore/api"
	"hstsstore/ascii"
	"hstsstore/host"
)

// The forms of a URL and of its parts.
var (
	excludedForm  = regexp.MustCompile(`[\x00-\x20\x7f]`)
	schemeForm    = regexp.MustCompile(`(?s)^([A-Za-z][A-Za-z0-9+.-]*):(.*)$`)
	authorityForm = regexp.MustCompile(`(?s)^//([^/?#]*)(.*)$`)
	userForm      = regexp.MustCompile(`(?s)^(?:(.*)@)?([^@]*)$`)
	hostForm      = regexp.MustCompile(`(?s)^(\[[^\]]*\]|[^\[:][^:]*|)(?::(.*))?$`)
	digitsForm    = regexp.MustCompile(`^[0-9]*$`)
)

// defaults are the default ports of the special schemes.
var defaults = map[string]int{"http": 80, "ws": 80, "https": 443, "wss": 443}

var specials = []string{"http", "https", "ws", "wss"}

// parseByDefinition returns the result of Parse by the definition.
func parseByDefinition(s string) (api.URL, api.Errno) {
	if len(s) > 2048 {
		return api.URL{}, api.ErrLimit
	}
	return unlimitedByDefinition(s)
}

// unlimitedByDefinition is parseByDefinition without the limit for the length.
func unlimitedByDefinition(s string) (api.URL, api.Errno) {
	if excludedForm.MatchString(s) {
		return api.URL{}, api.ErrSyntax
	}
	parts := schemeForm.FindStringSubmatch(s)
	if parts == nil {
		return api.URL{}, api.ErrScheme
	}
	u := api.URL{Scheme: ascii.Lower(parts[1]), Port: -1, Rest: parts[2]}
	standard, special := defaults[u.Scheme]
	if !special {
		return u, api.OK
	}
	parts = authorityForm.FindStringSubmatch(u.Rest)
	if parts == nil {
		return api.URL{}, api.ErrSyntax
	}
	u.Rest = parts[2]
	if u.Rest == "" || u.Rest[0] != '/' {
		u.Rest = "/" + u.Rest
	}
	parts = userForm.FindStringSubmatch(parts[1])
	u.User = parts[1]
	parts = hostForm.FindStringSubmatch(parts[2])
	if parts == nil {
		return api.URL{}, api.ErrSyntax
	}
	h, err := host.Parse(parts[1])
	if err != api.OK {
		return api.URL{}, err
	}
	u.Host = h
	if !digitsForm.MatchString(parts[2]) {
		return api.URL{}, api.ErrPort
	}
	if parts[2] == "" {
		return u, api.OK
	}
	number, _ := new(big.Int).SetString(parts[2], 10)
	if number.Cmp(big.NewInt(65535)) > 0 {
		return api.URL{}, api.ErrPort
	}
	if port := int(number.Int64()); port != standard {
		u.Port = port
	}
	return u, api.OK
}

// textByDefinition returns the text of which Format and Valid speak.
func textByDefinition(u api.URL) string {
	if _, special := defaults[u.Scheme]; !special {
		return fmt.Sprintf("%s:%s", u.Scheme, u.Rest)
	}
	user, port := "", ""
	if u.User != "" {
		user = u.User + "@"
	}
	if u.Port != -1 {
		port = fmt.Sprintf(":%d", u.Port)
	}
	return fmt.Sprintf("%s://%s%s%s%s", u.Scheme, user, host.Format(u.Host), port, u.Rest)
}

// validByDefinition reports whether u is valid.
func validByDefinition(u api.URL) bool {
	parsed, err := unlimitedByDefinition(textByDefinition(u))
	return err == api.OK && parsed == u
}

// upgradeByDefinition returns the result of Upgrade by the definition.
func upgradeByDefinition(u api.URL) api.URL {
	switch u.Scheme {
	case "http":
		u.Scheme = "https"
	case "ws":
		u.Scheme = "wss"
	default:
		return u
	}
	if u.Port == 443 {
		u.Port = -1
	}
	return u
}

// checkParse compares the result of Parse with its definition, and converts it back.
func checkParse(t *testing.T, s string) {
	t.Helper()
	want, wantErr := parseByDefinition(s)
	u, err := Parse(s)
	if u != want || err != wantErr {
		t.Fatalf("Parse(%q) = %+v, %d, want %+v, %d", s, u, err, want, wantErr)
	}
	if err == api.OK {
		checkValid(t, u)
	}
}

// checkValid checks that u is valid, that its text is read as u, and its upgrade.
func checkValid(t *testing.T, u api.URL) {
	t.Helper()
	if !Valid(u) || !validByDefinition(u) {
		t.Fatalf("Valid(%+v) = %v", u, Valid(u))
	}
	text := Format(u)
	if text != textByDefinition(u) {
		t.Fatalf("Format(%+v) = %q", u, text)
	}
	if back, err := Parse(text); len(text) <= 2048 && (back != u || err != api.OK) {
		t.Fatalf("Parse(Format(%+v)) = %+v, %d, for the text %q", u, back, err, text)
	}
	checkParts(t, u)
	if up := Upgrade(u); !Valid(up) || Insecure(up) || Upgrade(up) != up {
		t.Fatalf("the upgrade of %+v is %+v", u, up)
	}
}

// checkNotValid checks that u is not valid.
func checkNotValid(t *testing.T, u api.URL) {
	t.Helper()
	if Valid(u) || validByDefinition(u) {
		t.Fatalf("Valid(%+v) = %v", u, Valid(u))
	}
	if text := Format(u); text != "" {
		t.Fatalf("Format(%+v) = %q", u, text)
	}
	checkParts(t, u)
}

// checkURL checks whether u is valid.
func checkURL(t *testing.T, u api.URL) {
	t.Helper()
	if validByDefinition(u) {
		checkValid(t, u)
	} else {
		checkNotValid(t, u)
	}
}

// checkParts checks what P15.3 says of u, which need not be valid.
func checkParts(t *testing.T, u api.URL) {
	t.Helper()
	standard, special := defaults[u.Scheme]
	if got := Special(u.Scheme); got != special {
		t.Fatalf("Special(%q) = %v", u.Scheme, got)
	}
	if got := Insecure(u); got != (u.Scheme == "http" || u.Scheme == "ws") {
		t.Fatalf("Insecure(%+v) = %v", u, got)
	}
	port := u.Port
	if port == -1 && special {
		port = standard
	}
	if got := Port(u); got != port {
		t.Fatalf("Port(%+v) = %d, want %d", u, got, port)
	}
	if got, want := Upgrade(u), upgradeByDefinition(u); got != want {
		t.Fatalf("Upgrade(%+v) = %+v, want %+v", u, got, want)
	}
}

// checkRejected checks that Parse returns the error want for s.
func checkRejected(t *testing.T, s string, want api.Errno) {
	t.Helper()
	if u, err := Parse(s); u != (api.URL{}) || err != want {
		t.Errorf("Parse(%.80q) = %+v, %d, want %d", s, u, err, want)
	}
	checkParse(t, s)
}

// checkParsed checks that Parse returns want for s.
func checkParsed(t *testing.T, s string, want api.URL) {
	t.Helper()
	if u, err := Parse(s); u != want || err != api.OK {
		t.Errorf("Parse(%.80q) = %+v, %d, want %+v", s, u, err, want)
	}
	checkParse(t, s)
}

// domain returns the host with this name.
func domain(name string) api.Host { return api.Host{Kind: api.HostDomain, Name: name} }

// plain returns the URL of the host named a, with the default port and the rest "/".
func plain(scheme string) api.URL {
	return api.URL{Scheme: scheme, Host: domain("a"), Port: -1, Rest: "/"}
}

// texts calls f with all texts of at most n of the fragments.
func texts(fragments []string, n int, f func(s string)) {
	f("")
	if n == 0 {
		return
	}
	for _, fragment := range fragments {
		texts(fragments, n-1, func(s string) {
			f(s + fragment)
		})
	}
}

// P15.1: schemes, special and others.
func TestSchemes(t *testing.T) {
	for s, want := range map[string]string{"http": "http", "HTTP": "http", "hTTpS": "https", "WS": "ws", "wsS": "wss"} {
		checkParsed(t, s+"://a/", plain(want))
		checkRejected(t, s, api.ErrScheme)
		for _, rest := range []string{"", "/", "a", "/a", ":", "?", "#", "a//", "/a//b", "/:/", "?//a", "[::1]", `\\a`, "@//a", "%2F/a"} {
			checkRejected(t, s+":"+rest, api.ErrSyntax)
		}
	}
	for s, want := range map[string]string{"data": "data", "A1+-.": "a1+-.", "z": "z", "Z": "z", "file": "file", "httpss": "httpss", "htt": "htt", "wsss": "wsss", "w": "w", "ftp": "ftp", "about": "about", "blob": "blob", "http+x": "http+x", "a.b": "a.b", "a--": "a--", "abcdefghijklmnopqrstuvwxyz": "abcdefghijklmnopqrstuvwxyz", "ABCDEFGHIJKLMNOPQRSTUVWXYZ0123456789": "abcdefghijklmnopqrstuvwxyz0123456789"} {
		for _, rest := range []string{"", ",x", "x", ":", "::", "/", "//", "//a", "//A:99999/B", "//[", "//[::1]x", "//u@a:80", "//a..b", "http://a", "?Q", "#F", "\xff\x80", "%zz", strings.Repeat("x", 1000)} {
			checkParsed(t, s+":"+rest, api.URL{Scheme: want, Port: -1, Rest: rest})
		}
	}
	for _, s := range []string{"", "a", "http", ":", "::", ":x", "://a", "1:", "1http://a", "+a:", "-a:", ".a:", "0:", "9:", "ht_tp://a", "a/b:", "/:", "//a/b:c", "?:", "#a:", "a?b:", "a@b:", "[::1]", "[a]:", "a%41:", "a\xff:", "\xffa:", "\u00fc:", "a\u212a:", "a\u017f:", "a!:", "a,b:", "a*b:", "a=b:", "a;b:", "@:", "`:", "{:", "[:", "a@:", "a`:", "a{:", "a[:"} {
		checkRejected(t, s, api.ErrScheme)
	}
}

// P15.1: every byte in a scheme, at its beginning and behind a letter.
func TestSchemeBytes(t *testing.T) {
	const letters = "ABCDEFGHIJKLMNOPQRSTUVWXYZabcdefghijklmnopqrstuvwxyz"
	for b := range 256 {
		s := string([]byte{byte(b)})
		first := api.ErrScheme
		behind := api.ErrScheme
		switch {
		case b <= 0x20 || b == 0x7F:
			first, behind = api.ErrSyntax, api.ErrSyntax
		case s == ":":
			behind = api.OK // it ends the scheme
		case strings.Contains(letters, s):
			first, behind = api.OK, api.OK
		case strings.Contains("0123456789+-.", s):
			behind = api.OK
		}
		for scheme, want := range map[string]api.Errno{s: first, s + "a": first, "a" + s: behind, "a" + s + "b": behind, "ab" + s: behind, "a1" + s: behind} {
			if _, err := Parse(scheme + ":x"); err != want {
				t.Errorf("Parse(%q) = _, %d, want %d", scheme+":x", err, want)
			}
			checkParse(t, scheme+":x")
			checkParse(t, scheme)
			checkURL(t, api.URL{Scheme: scheme, Port: -1})
		}
	}
}

// P15.1: the user part ends with the last at sign of the authority.
func TestUsers(t *testing.T) {
	for text, user := range map[string]string{
		"": "", "@": "", "u@": "u", "u:p@": "u:p", "u:@": "u:", ":p@": ":p", ":@": ":", "@@": "@", "x@y@": "x@y", "@x@": "@x", "x@@": "x@", "@@@": "@@",
		"U%zz@": "U%zz", "[@": "[", "[::1]@": "[::1]", "]@": "]", "a:80@": "a:80", "b.c@": "b.c", "\xff\xc3@": "\xff\xc3", "\u00dc@": "\u00dc", `\@`: `\`, "a:b:c@": "a:b:c",
	} {
		for _, scheme := range specials {
			want := plain(scheme)
			want.User = user
			checkParsed(t, scheme+"://"+text+"a", want)
			checkParsed(t, scheme+"://"+text+"A./", want)
			want.Port = 8
			checkParsed(t, scheme+"://"+text+"a:8/", want)
			want.Rest = "/x@y"
			checkParsed(t, scheme+"://"+text+"a:8/x@y", want)
			checkRejected(t, scheme+"://"+text, api.ErrHost)
			checkRejected(t, scheme+"://"+text+"/a", api.ErrHost)
			checkRejected(t, scheme+"://"+text+":80/", api.ErrHost)
		}
	}
	// An at sign behind the authority belongs to the rest.
	for _, rest := range []string{"/@", "/@b", "/x@b/", "/?@b", "/#u@b:c"} {
		want := plain("http")
		want.Rest = rest
		checkParsed(t, "http://a"+rest, want)
		checkParsed(t, "http://a:80"+rest, want)
		checkParsed(t, "http://@a:"+rest, want)
	}
	for _, rest := range []string{"?@b", "?u@b:8/", "#@b", "#u@[::1]"} {
		want := plain("http")
		want.Rest = "/" + rest
		checkParsed(t, "http://a"+rest, want)
	}
}

// P15.1: the authority ends at a slash, a question mark or a number sign, and what follows
// is the rest.
func TestRests(t *testing.T) {
	for _, scheme := range specials {
		want := plain(scheme)
		checkParsed(t, scheme+"://a", want)
		for _, rest := range []string{"/", "//", "///", "/x", "/X/../y", "/x?y#z", "/?", "/#", "/:80", "/[", "/]", "/%zz", "/\xff", "/\u00fc", `/\`, "/?/#/", "/http://b/"} {
			want.Rest = rest
			checkParsed(t, scheme+"://a"+rest, want)
		}
		for _, rest := range []string{"?", "#", "?q", "#f", "?/", "#/", "??", "##", "?#", "#?", "?q#f", "?q/r", "#f?/", "?:80", "?\xff", "?Q=%"} {
			want.Rest = "/" + rest
			checkParsed(t, scheme+"://a"+rest, want)
		}
		for _, text := range []string{`a\`, `a\b`, "a;b", "a,b", "a&b", "a!"} {
			checkRejected(t, scheme+"://"+text, api.ErrHost) // nothing else ends the authority
		}
	}
}

// P15.1: hosts, with and without brackets.
func TestHosts(t *testing.T) {
	for text, want := range map[string]api.Host{
		"a": domain("a"), "A.B.": domain("a.b"), "Example.com": domain("example.com"), "a_b.C-d": domain("a_b.c-d"), "b\u00fccher.x": domain("xn--bcher-kva.x"), "b%C3%BCcher.x": domain("xn--bcher-kva.x"), "%61%2Eb": domain("a.b"), "xn--tda": domain("xn--tda"),
		"127.0.0.1": {Kind: api.HostIPv4, V4: 0x7F000001}, "127.1": {Kind: api.HostIPv4, V4: 0x7F000001}, "0x7f.1.": {Kind: api.HostIPv4, V4: 0x7F000001}, "0": {Kind: api.HostIPv4},
		"[::]": {Kind: api.HostIPv6}, "[::1]": {Kind: api.HostIPv6, V6: [8]uint16{7: 1}}, "[2001:DB8::1.2.3.4]": {Kind: api.HostIPv6, V6: [8]uint16{0: 0x2001, 1: 0xDB8, 6: 0x102, 7: 0x304}},
	} {
		for _, scheme := range specials {
			u := api.URL{Scheme: scheme, Host: want, Port: -1, Rest: "/"}
			for _, rest := range []string{"", "/", ":", ":/"} {
				checkParsed(t, scheme+"://"+text+rest, u)
			}
			u.User, u.Port, u.Rest = "u:[", 8080, "/]?x"
			checkParsed(t, scheme+"://u:[@"+text+":8080/]?x", u)
			checkParsed(t, scheme+"://u:[@"+text+":008080/]?x", u)
			checkParsed(t, scheme+"://"+text+"/", api.URL{Scheme: scheme, Host: want, Port: -1, Rest: "/"})
		}
	}
	for _, text := range []string{"", "@", "u@", ":", ":80", "a..b", ".", "..", "-", "a-", "1.2.3.256", "a.1", "a]", "]", "a[", "a[::1]", "::1", "::", ":a", "[]", "[[]", "[::x]", "[1.2.3.4]", "[::1%25e]", "[[::1]", "[@b]", "a%", "a%2F", "%2f", "a%3A80", "a%40b", "%5b::1]", "%5B::1%5D", "a%20b", "*", "a,b", `a\b`, strings.Repeat("a", 64)} {
		checkRejected(t, "http://"+text, api.ErrHost)
		checkRejected(t, "wss://"+text+"/x", api.ErrHost)
		checkRejected(t, "HTTPS://"+text+"?x", api.ErrHost)
	}
	for _, text := range []string{"[", "[::1", "[a", "[:80", "[::1:80", "[[", "u@[", "u:]@[::1", "]@[", "[::1]x", "[::1]]", "[::1].", "[::1]8", "[::1]x:80", "[::1]@[", "[]x", "[]]", "[][", "[x]]:80", "[::1]\xff", "[::1];", `[::1]\`, "[%5d", "[::1%5D"} {
		checkRejected(t, "http://"+text, api.ErrSyntax)
		checkRejected(t, "wss://"+text+"/", api.ErrSyntax)
		checkRejected(t, "https://"+text+"/]", api.ErrSyntax)
		checkRejected(t, "ws://"+text+"?]:80", api.ErrSyntax)
		checkRejected(t, "http://"+text+"#]", api.ErrSyntax)
	}
	for _, text := range []string{"\xff", "a\xff", "a.\xc3", "%ff", "a%c3.b", "\xff..", "\xff.a:80"} {
		checkRejected(t, "http://"+text+"/", api.ErrSyntax)
	}
	checkRejected(t, "http://"+strings.Repeat("a.", 127)+"a", api.ErrLimit)
}

// P15.1: every port with every special scheme.
func TestEveryPort(t *testing.T) {
	for _, scheme := range specials {
		for port := range 66000 {
			want := plain(scheme)
			if port != defaults[scheme] {
				want.Port = port
			}
			wantErr := api.OK
			if port > 65535 {
				want, wantErr = api.URL{}, api.ErrPort
			}
			for _, format := range []string{"%s://a:%d", "%s://a:0%d/", "%s://a:000000%d/"} {
				s := fmt.Sprintf(format, scheme, port)
				if u, err := Parse(s); u != want || err != wantErr {
					t.Fatalf("Parse(%q) = %+v, %d, want %+v, %d", s, u, err, want, wantErr)
				}
			}
			u := plain(scheme)
			u.Port = port
			text := ""
			if port <= 65535 && port != defaults[scheme] {
				text = fmt.Sprintf("%s://a:%d/", scheme, port)
			}
			if Valid(u) != (text != "") || Format(u) != text {
				t.Fatalf("Valid(%+v) = %v, Format = %q", u, Valid(u), Format(u))
			}
		}
	}
}

// P15.1: ports of any number of digits, and texts that are none.
func TestPorts(t *testing.T) {
	for _, zeros := range []int{0, 1, 4, 5, 20, 100, 2000} {
		for digits, port := range map[string]int{"": 0, "0": 0, "1": 1, "79": 79, "80": -1, "81": 81, "443": 443, "65535": 65535} {
			if digits == "" && zeros == 0 {
				port = -1
			}
			want := plain("http")
			want.Port = port
			checkParsed(t, "http://a:"+strings.Repeat("0", zeros)+digits, want)
			checkParsed(t, "http://a:"+strings.Repeat("0", zeros)+digits+"/", want)
		}
		for _, digits := range []string{"65536", "65537", "65615", "65979", "65616", "99999", "100000", "655350", "131072", "2147483648", "4294967295", "4294967296", "4294967376", "4294967739", "9223372036854775808", "18446744073709551615", "18446744073709551616", "18446744073709551696", "18446744073709552059", "99999999999999999999999999", "x", "0x50", "80x", "x80", "+80", "-80", "-1", "-0", "+", "-", "8a", "8_0", "_80", "8.0", "80.", "1e2", "8,0", ":", ":80", "80:", "1:2", "%38%30", "\xff", "8\xff", "\u0668", "\uff18", "]", "[", "8]", "a", ";", `\`, "*"} {
			s := "a:" + strings.Repeat("0", zeros) + digits
			if len(s) > 2000 {
				continue
			}
			for _, scheme := range specials {
				checkRejected(t, scheme+"://"+s, api.ErrPort)
				checkRejected(t, scheme+"://u@"+s+"/", api.ErrPort)
				checkRejected(t, scheme+"://"+s+"?x", api.ErrPort)
			}
			checkRejected(t, "http://[::]"+s[1:]+"#x", api.ErrPort)
		}
	}
}

// P15.1: the first error that applies is returned.
func TestOrderOfErrors(t *testing.T) {
	long := strings.Repeat("x", 2048)
	for _, s := range []string{" ", "\x7f", "1:", "", "http:", "http://[", "http://a..b/", "http://a:x/", "http://a/", "data:"} {
		checkRejected(t, s+long+"x", api.ErrLimit)
		checkRejected(t, long+s+"x", api.ErrLimit)
	}
	for _, excluded := range []string{"\x00", "\t", "\n", "\r", "\x1f", " ", "\x7f"} {
		for _, s := range []string{"", "1", "a", "http", "1http://a", "http:", "http:a", "http://", "http://[", "http://[::1]x", "http://a..b", "http://a:x", "http://a", "data:", "http://a:x/", "ws://u@b"} {
			checkRejected(t, s+excluded, api.ErrSyntax)
			checkRejected(t, excluded+s, api.ErrSyntax)
			checkRejected(t, s+excluded+":x", api.ErrSyntax)
		}
	}
	for _, s := range []string{"1http:/a", "1http://[", "1http://a..b", "1http://a:x", "_:", "http", "//[", "//a..b/", "//a:x/", "[::1]x:"} {
		checkRejected(t, s, api.ErrScheme)
	}
	for _, s := range []string{"http:/a..b", "http:[", "http:/a:x", "http:/[::1]:x", "http://[::x", "http://[::x]y", "http://[::x]y:z", "http://[:x", "http://[]x:y"} {
		checkRejected(t, s, api.ErrSyntax)
	}
	for _, s := range []string{"http://a..b:x", "http://:x", "http://[::x]:y", "http://[]:99999", "http://1.2.3.256:99999", "http://::1", "http://a.1:-"} {
		checkRejected(t, s, api.ErrHost)
	}
	checkRejected(t, "http://a\xff:x", api.ErrSyntax)
	checkRejected(t, "http://"+strings.Repeat("a", 300)+":x", api.ErrLimit)
	checkRejected(t, "http://[::1]:x", api.ErrPort)
}

// P15.1: every byte in each place of some texts, instead of another one and between two.
func TestEveryByte(t *testing.T) {
	for _, s := range []string{"", "a", "http://a", "http://a/", "HTTPS://u:p@Example.com:8080/x?y#z", "ws://u@[::1]:80/", "wss://127.0.0.1:443?q", "data:,x", "http://[::1]#", "http://\u00fc:8", "ws:/a", "http://a:"} {
		for i := range len(s) + 1 {
			for b := range 256 {
				c := string([]byte{byte(b)})
				checkParse(t, s[:i]+c+s[i:])
				if i < len(s) {
					checkParse(t, s[:i]+c+s[i+1:])
				}
				if _, err := Parse(s[:i] + c + s[i:]); (b <= 0x20 || b == 0x7F) && err != api.ErrSyntax {
					t.Errorf("Parse(%q) = _, %d", s[:i]+c+s[i:], err)
				}
			}
			checkParse(t, s[:i])
			checkParse(t, s[i:])
		}
	}
}

// P15.1: texts around the limit of MaxURL bytes, and hosts around that of MaxHost bytes.
func TestLengths(t *testing.T) {
	for _, s := range []string{"data:", "http://a/", "https://a?", "ws://u@a:8/#", "wss://a:0", "http://a:", "1", "http:", "http://[", "http://", "a", " "} {
		for _, fill := range []string{"0", "x", "/", "@", ":", "\xff", " ", "."} {
			for _, n := range []int{2046, 2047, 2048, 2049, 2050, 4096, 1 << 17} {
				checkParse(t, s+strings.Repeat(fill, n-len(s)))
			}
			checkRejected(t, s+strings.Repeat(fill, 2049-len(s)), api.ErrLimit)
			checkRejected(t, s+strings.Repeat(fill, 1<<20), api.ErrLimit)
		}
	}
	fill := strings.Repeat("x", 2048-len("http://a/"))
	checkParsed(t, "http://a/"+fill, api.URL{Scheme: "http", Host: domain("a"), Port: -1, Rest: "/" + fill})
	checkParsed(t, "http://a?x"+fill[1:], api.URL{Scheme: "http", Host: domain("a"), Port: -1, Rest: "/?x" + fill[1:]})
	checkParsed(t, "http://"+fill+"@a", api.URL{Scheme: "http", User: fill, Host: domain("a"), Port: -1, Rest: "/"})
	checkParsed(t, strings.Repeat("A", 2047)+":", api.URL{Scheme: strings.Repeat("a", 2047), Port: -1})

	for _, n := range []int{1000, 1023, 1024, 1025, 2000} {
		want := api.OK
		if n > 1024 {
			want = api.ErrLimit
		}
		for _, s := range []string{"http://%s", "ws://u@%s:8/", "wss://%s?x", "https://%s:0443"} {
			if _, err := Parse(fmt.Sprintf(s, strings.Repeat("0", n))); err != want {
				t.Errorf("Parse of a host of %d bytes = _, %d, want %d", n, err, want)
			}
			checkParse(t, fmt.Sprintf(s, strings.Repeat("0", n)))
			checkParse(t, fmt.Sprintf(s, strings.Repeat("a", n)))
			checkParse(t, fmt.Sprintf(s, "["+strings.Repeat("0", n-2)+"]"))
		}
	}
}

// P15.1 to P15.3: all texts of a few fragments.
func TestShortTexts(t *testing.T) {
	check := func(s string) { checkParse(t, s) }
	texts([]string{"http", "a", "1", ":", "/", "//", "@", "."}, 5, check)
	texts([]string{"a", "A", "0", "+", "_", ":", "/"}, 5, check)
	for _, scheme := range specials {
		check := func(s string) { checkParse(t, scheme+":"+s) }
		texts([]string{"/", "//", "a", ":", "?"}, 4, check)
	}
	for _, scheme := range specials {
		check := func(s string) { checkParse(t, scheme+"://"+s) }
		texts([]string{"a", "B", "@", ":", "80", "443", "/", "?", "#", "."}, 4, check)
		texts([]string{"[", "]", "::1", ":", "@", "/", "8", "[::1]", "[::]:"}, 4, check)
	}
	texts([]string{"a", "@", ":", "/", "?", "8"}, 6, func(s string) { checkParse(t, "ws://"+s) })
}

// valid is a valid URL of which the tests change a part.
var valid = api.URL{Scheme: "http", User: "u", Host: domain("a.b"), Port: 8, Rest: "/x"}

// P15.2: texts of valid URLs.
func TestFormat(t *testing.T) {
	v6 := api.Host{Kind: api.HostIPv6, V6: [8]uint16{7: 1}}
	for _, c := range []struct {
		u    api.URL
		text string
	}{
		{plain("http"), "http://a/"}, {plain("https"), "https://a/"}, {plain("ws"), "ws://a/"}, {plain("wss"), "wss://a/"}, {valid, "http://u@a.b:8/x"},
		{api.URL{Scheme: "wss", User: "u@:", Host: v6, Port: 80, Rest: "/?q#f"}, "wss://u@:@[::1]:80/?q#f"},
		{api.URL{Scheme: "ws", Host: api.Host{Kind: api.HostIPv4}, Port: 443, Rest: "//"}, "ws://0.0.0.0:443//"},
		{api.URL{Scheme: "https", User: ":", Host: api.Host{Kind: api.HostIPv6}, Port: 0, Rest: "/\xff"}, "https://:@[::]:0/\xff"},
		{api.URL{Scheme: "http", User: "@", Host: domain("xn--tda"), Port: 65535, Rest: "/#"}, "http://@@xn--tda:65535/#"},
		{api.URL{Scheme: "data", Port: -1, Rest: ",x"}, "data:,x"}, {api.URL{Scheme: "a", Port: -1}, "a:"}, {api.URL{Scheme: "z9+-.", Port: -1, Rest: "//A:x@["}, "z9+-.://A:x@["},
	} {
		if got := Format(c.u); got != c.text {
			t.Errorf("Format(%+v) = %q, want %q", c.u, got, c.text)
		}
		checkValid(t, c.u)
	}
}

// P15.2: URLs with one part that is not valid, and with others.
func TestOtherParts(t *testing.T) {
	checkValid(t, valid)
	for _, scheme := range []string{"", "h", "httpx", "data", "HTTP", "Http", "httP", "http:", "http://", " http", "http ", "http\x00", "1", "\u00fc", "http://u@a.b:8/x", "data:"} {
		u := valid
		u.Scheme = scheme
		checkNotValid(t, u)
	}
	for _, user := range []string{"u/", "/", "u?", "?", "#", "u#v", " ", "u v", "u\n", "\x00", "\x7f", "u\x1f", "a.b:8/x@y", "?@", "@/"} {
		u := valid
		u.User = user
		checkNotValid(t, u)
	}
	for _, user := range []string{"", "@", "u@", "@u", ":", "u:p", "[", "]", "[::1]", "\xff", "\u00fc", "%", "%zz", "U", `\`, "a.b:8", strings.Repeat("u", 3000)} {
		u := valid
		u.User = user
		checkValid(t, u)
	}
	for _, h := range []api.Host{{}, domain(""), domain("A"), domain("a."), domain("a..b"), domain("1"), domain("a.1"), domain("[::1]"), domain("127.0.0.1"), domain("a:8"), domain("u@a"), domain("a/"), domain("\u00fc"), domain("a b"), {Kind: 4, Name: "a.b"}, {Name: "a.b"}, {Kind: api.HostDomain, Name: "a.b", V4: 1}, {Kind: api.HostIPv4, Name: "a.b"}, {Kind: api.HostIPv6, V4: 1}} {
		for _, rest := range []string{"/x", "a.b:8/x", "a.b/x", "@a.b", ""} {
			u := valid
			u.Host, u.Rest = h, rest
			checkNotValid(t, u)
			u.User = ""
			checkNotValid(t, u)
			u.Port = -1
			checkNotValid(t, u)
		}
	}
	for _, port := range []int{80, -2, -8, -80, -443, 65536, 65616, 1 << 32, 1<<32 + 8, math.MinInt, math.MaxInt, math.MinInt32} {
		u := valid
		u.Port = port
		checkNotValid(t, u)
	}
	for _, port := range []int{-1, 0, 1, 79, 81, 443, 65535} {
		u := valid
		u.Port = port
		checkValid(t, u)
	}
	for _, rest := range []string{"", "x", "?", "#", "?q", "#f", ":9/x", "8/x", "0/x", ".c/", "@c/", "@/", " ", "/ ", "/\n", "/\x00", "/x\x7f", "\xff", `\`, "a/"} {
		u := valid
		u.Rest = rest
		checkNotValid(t, u)
		u.Port = -1
		checkNotValid(t, u)
	}
	for _, rest := range []string{"/", "//", "/@", "/:", "/?", "/#", "/?#", "/[", "/\xff", "/X", "/%", `/\`, "/" + strings.Repeat("x", 5000)} {
		u := valid
		u.Rest = rest
		checkValid(t, u)
	}
}

// P15.2: URLs whose scheme is not special have no user, no host and no port.
func TestOtherSchemes(t *testing.T) {
	for _, scheme := range []string{"data", "file", "a", "a1+-.", "httpx", strings.Repeat("a", 3000)} {
		for _, rest := range []string{"", "x", "//a/", "//A:x", ":", "@", "\xff", strings.Repeat("x", 3000)} {
			u := api.URL{Scheme: scheme, Port: -1, Rest: rest}
			checkValid(t, u)
			u.User = "u"
			checkNotValid(t, u)
			u = api.URL{Scheme: scheme, Host: domain("a"), Port: -1, Rest: rest}
			checkNotValid(t, u)
			u = api.URL{Scheme: scheme, Host: api.Host{V4: 1}, Port: -1, Rest: rest}
			checkNotValid(t, u)
			for _, port := range []int{0, 1, 80, 443, -2, math.MaxInt, math.MinInt} {
				checkNotValid(t, api.URL{Scheme: scheme, Port: port, Rest: rest})
			}
		}
		for _, rest := range []string{" ", "x ", "\n", "\x00", "\x1fx", "\x7f"} {
			checkNotValid(t, api.URL{Scheme: scheme, Port: -1, Rest: rest})
		}
	}
	for _, scheme := range []string{"", "1", "A", "aB", "a:", ":", ":a", "a:b", "a b", "a/", "a_", "\u00fc", "\xff", "+", "-a", ".", "data://x", "http:", "HTTP", "Data"} {
		for _, rest := range []string{"", "x", "//a/", ":x", "/"} {
			checkNotValid(t, api.URL{Scheme: scheme, Port: -1, Rest: rest})
			checkNotValid(t, api.URL{Scheme: scheme, Host: domain("a"), Port: -1, Rest: rest})
		}
	}
	checkNotValid(t, api.URL{})
}

// P15.2 and P15.3: combinations of parts, valid and not.
func TestCombinations(t *testing.T) {
	schemes := []string{"", "http", "https", "ws", "wss", "data", "HTTP", "http:", "1"}
	users := []string{"", "u", "u@v", "u/"}
	hosts := []api.Host{{}, domain("a"), domain("A"), domain("a/"), {Kind: api.HostIPv4, V4: 0x7F000001}, {Kind: api.HostIPv6}, {Kind: 9}}
	ports := []int{math.MinInt, -2, -1, 0, 1, 80, 443, 8080, 65535, 65536, math.MaxInt}
	rests := []string{"", "/", "x", "/x?y", "?", "//a", "/ "}
	count := 0
	for _, scheme := range schemes {
		for _, user := range users {
			for _, h := range hosts {
				for _, port := range ports {
					for _, rest := range rests {
						u := api.URL{Scheme: scheme, User: user, Host: h, Port: port, Rest: rest}
						checkURL(t, u)
						if Valid(u) {
							count++
						}
					}
				}
			}
		}
	}
	// Four special schemes with three users, three hosts, six ports and three rests, and
	// data with each rest but the one with a space.
	if want := 4*3*3*6*3 + 6; count != want {
		t.Errorf("%d of the URLs are valid, want %d", count, want)
	}
}

// P15.2: the limit for the length is disregarded.
func TestLongTexts(t *testing.T) {
	for _, s := range []string{"http://a/", "ws://a/", "http://a?", "ws://u@a:8#", "http://a:443/"} {
		s += strings.Repeat("x", 2048-len(s))
		u, err := Parse(s)
		if err != api.OK {
			t.Fatalf("Parse(%.20q) = _, %d", s, err)
		}
		checkValid(t, u)
		up := Upgrade(u)
		checkValid(t, up)
		for range 3 {
			up.Rest += strings.Repeat("y", 3000)
			checkValid(t, up)
			if _, err := Parse(Format(up)); err != api.ErrLimit {
				t.Errorf("Parse of %d bytes = _, %d", len(Format(up)), err)
			}
			invalid := up
			invalid.Rest += " "
			checkNotValid(t, invalid)
		}
		up.User = strings.Repeat("u@:", 1<<16)
		checkValid(t, up)
		up.Host.Name = strings.Repeat("a", 1<<20)
		checkNotValid(t, up)
	}
}

// P15.3: which schemes are special.
func TestSpecial(t *testing.T) {
	for _, scheme := range specials {
		if !Special(scheme) {
			t.Errorf("Special(%q) = false", scheme)
		}
		for _, other := range []string{strings.ToUpper(scheme), scheme + "x", scheme + ":", scheme + " ", " " + scheme, scheme[1:], scheme + "\x00", "x" + scheme, scheme + scheme} {
			if Special(other) {
				t.Errorf("Special(%q) = true", other)
			}
		}
	}
	texts([]string{"h", "t", "p", "w", "s", "H", "S", ":"}, 5, func(s string) {
		if got := Special(s); got != slices.Contains(specials, s) {
			t.Errorf("Special(%q) = %v", s, got)
		}
	})
	for _, other := range []string{"", "ftp", "file", "data", "about", "blob", "mailto", "h\u0074tp\xff"} {
		if Special(other) {
			t.Errorf("Special(%q) = true", other)
		}
	}
}

// P15.3: upgrades of valid URLs.
func TestUpgrade(t *testing.T) {
	for s, want := range map[string]string{
		"http://a/": "https://a/", "http://a:80/x": "https://a/x", "http://a:443/": "https://a/", "http://a:8080/": "https://a:8080/", "http://a:0/": "https://a:0/", "HTTP://U@A?q#f": "https://U@a/?q#f", "http://a:65535": "https://a:65535/", "http://a:442": "https://a:442/", "http://[::1]:443#f": "https://[::1]/#f", "http://1.2.3.4:444": "https://1.2.3.4:444/",
		"ws://a/": "wss://a/", "ws://a:80/x": "wss://a/x", "ws://a:443/": "wss://a/", "ws://a:8080/": "wss://a:8080/", "ws://http@a:81/http:": "wss://http@a:81/http:", "WS://a:1": "wss://a:1/",
		"https://a/": "https://a/", "https://a:80/": "https://a:80/", "https://a:443/": "https://a/", "https://a:8080/": "https://a:8080/", "wss://a/": "wss://a/", "wss://a:80/": "wss://a:80/", "wss://a:443/x": "wss://a/x",
		"data:x": "data:x", "file:///x": "file:///x", "http+x://a:443/": "http+x://a:443/", "blob:http://a:443/": "blob:http://a:443/",
	} {
		u, err := Parse(s)
		if got := Format(Upgrade(u)); got != want || err != api.OK {
			t.Errorf("the upgrade of %q is %q, %d, want %q", s, got, err, want)
		}
		checkParse(t, s)
	}
	for _, scheme := range []string{"http", "ws"} {
		for port := -1; port <= 65535; port++ {
			u := valid
			u.Scheme, u.Port = scheme, port
			if port == 80 {
				continue // not valid
			}
			up := Upgrade(u)
			want := port
			if port == -1 || port == 443 {
				want = 443
			}
			if Port(up) != want || up.Scheme != scheme+"s" || up.User != u.User || up.Host != u.Host || up.Rest != u.Rest {
				t.Fatalf("the upgrade of %+v is %+v", u, up)
			}
		}
	}
}

// P15.3: parts of URLs that are not valid.
func TestPartsOfOthers(t *testing.T) {
	for _, scheme := range []string{"", "http", "https", "ws", "wss", "data", "HTTP", "WS", "x"} {
		for _, port := range []int{math.MinInt, -443, -80, -2, -1, 0, 1, 80, 443, 444, 65536, math.MaxInt} {
			checkParts(t, api.URL{Scheme: scheme, Port: port})
			checkParts(t, api.URL{Scheme: scheme, User: "/ ", Host: api.Host{Kind: 7, Name: "A..", V4: 1, V6: [8]uint16{1}}, Port: port, Rest: "x\xff "})
		}
	}
	for _, c := range []struct {
		u, up    api.URL
		insecure bool
		port     int
	}{
		{api.URL{}, api.URL{}, false, 0},
		{api.URL{Port: -1}, api.URL{Port: -1}, false, -1},
		{api.URL{Scheme: "http"}, api.URL{Scheme: "https"}, true, 0},
		{api.URL{Scheme: "http", Port: 80}, api.URL{Scheme: "https", Port: 80}, true, 80},
		{api.URL{Scheme: "ws", Port: 443, Rest: "x"}, api.URL{Scheme: "wss", Port: -1, Rest: "x"}, true, 443},
		{api.URL{Scheme: "ws", Port: -2}, api.URL{Scheme: "wss", Port: -2}, true, -2},
		{api.URL{Scheme: "https", Port: 443}, api.URL{Scheme: "https", Port: 443}, false, 443},
		{api.URL{Scheme: "wss", Port: -1}, api.URL{Scheme: "wss", Port: -1}, false, 443},
		{api.URL{Scheme: "HTTP", Port: 443}, api.URL{Scheme: "HTTP", Port: 443}, false, 443},
		{api.URL{Scheme: "HTTP", Port: -1}, api.URL{Scheme: "HTTP", Port: -1}, false, -1},
		{api.URL{Scheme: "data", Port: 7}, api.URL{Scheme: "data", Port: 7}, false, 7},
	} {
		if Upgrade(c.u) != c.up || Insecure(c.u) != c.insecure || Port(c.u) != c.port {
			t.Errorf("for %+v the results are %+v, %v and %d", c.u, Upgrade(c.u), Insecure(c.u), Port(c.u))
		}
	}
}

// P15.1 to P15.3: random texts, and random parts.
func TestRandomTexts(t *testing.T) {
	r := rand.New(rand.NewSource(15))
	fragments := []string{"a", "/", ":", "b.com", "@", "8080", "80", "443", "http", "?", "#", "//", ".", "u", "Example.COM", "[::1]", "127.0.0.1", "%41", "\u00fc", "[", "]", "0", "65536", "_", "-", "..", "\xff", " ", "\x7f"}
	starts := []string{"", "", "http://", "HTTPS://", "ws://", "wss://", "http://u@", "http://a", "ws://a:", "data:", "http://[::1]"}
	parsed := 0
	for range 200000 {
		var text strings.Builder
		text.WriteString(starts[r.Intn(len(starts))])
		usual := 1 + r.Intn(len(fragments))
		for range r.Intn(8) {
			text.WriteString(fragments[r.Intn(usual)])
		}
		checkParse(t, text.String())
		if _, err := Parse(text.String()); err == api.OK {
			parsed++
		}
	}
	if parsed < 20000 {
		t.Errorf("only %d texts are URLs", parsed)
	}
	pick := func(from ...string) string { return from[r.Intn(len(from))] }
	for range 50000 {
		u := api.URL{Scheme: pick("http", "https", "ws", "wss", "data", "Http"), User: pick("", "", "u", "@", "/", fragments[r.Intn(len(fragments))]), Host: domain(pick("a", "b.c", "1", "")), Port: -1, Rest: pick("/", "/x", "", fragments[r.Intn(len(fragments))])}
		if r.Intn(2) == 0 {
			u.Port = r.Intn(1<<17) >> r.Intn(18)
		}
		if u.Scheme == "data" && r.Intn(2) == 0 {
			u.User, u.Host = "", api.Host{}
		}
		checkURL(t, u)
	}
}

// overwrite replaces all bytes of s, which must not be a constant.
func overwrite(s string) {
	clear(unsafe.Slice(unsafe.StringData(s), len(s)))
}

// P15.1 to P15.3: the results share no memory with the arguments, nor with one another.
func TestMemory(t *testing.T) {
	for _, text := range []string{"http://u@a.b:8/x", "wss://a.b", "data:x"} {
		bytes := []byte(text)
		argument := unsafe.String(&bytes[0], len(bytes))
		want, _ := Parse(text)
		u, _ := Parse(argument)
		clear(bytes)
		if u != want {
			t.Errorf("the result of Parse(%q) became %+v", text, u)
		}
		up := Upgrade(u)
		again := Format(u)
		wantUp := Upgrade(want)
		overwrite(u.Rest)
		if u.Scheme != want.Scheme || u.User != want.User || u.Host != want.Host {
			t.Errorf("the parts of %q share memory: %+v", text, u)
		}
		overwrite(u.User)
		overwrite(u.Host.Name)
		if u.Scheme != want.Scheme {
			t.Errorf("the scheme of %q shares memory: %+v", text, u)
		}
		overwrite(u.Scheme)
		if up != wantUp {
			t.Errorf("the upgrade of %q became %+v", text, up)
		}
		if back, _ := Parse(again); back != want {
			t.Errorf("the text of %q became %q", text, again)
		}
	}
	// A URL that is not upgraded is a copy, too.
	bytes := []byte("x://")
	u := api.URL{Scheme: unsafe.String(&bytes[0], 1), Port: -1, Rest: unsafe.String(&bytes[1], 3)}
	up := Upgrade(u)
	clear(bytes)
	if up != (api.URL{Scheme: "x", Port: -1, Rest: "://"}) {
		t.Errorf("the result of Upgrade became %+v", up)
	}
}

// The examples of the chapter.
func TestExamples(t *testing.T) {
	checkParsed(t, "HTTP://u:p@Example.com:80?q", api.URL{Scheme: "http", User: "u:p", Host: domain("example.com"), Port: -1, Rest: "/?q"})
	u, err := Parse("http://a:443/")
	if u.Port != 443 || err != api.OK {
		t.Errorf("the port is %d, %d", u.Port, err)
	}
	if got := Format(Upgrade(u)); got != "https://a/" {
		t.Errorf("the upgrade is %q", got)
	}
	checkParsed(t, "data:,x", api.URL{Scheme: "data", Port: -1, Rest: ",x"})
	checkRejected(t, "http:/a", api.ErrSyntax)
	checkRejected(t, "http://a:x/", api.ErrPort)
	checkRejected(t, "1http://a", api.ErrScheme)
	u, _ = Parse("http://a.com:80/x")
	if got := Format(Upgrade(u)); got != "https://a.com/x" {
		t.Errorf("the upgrade is %q", got)
	}
}
