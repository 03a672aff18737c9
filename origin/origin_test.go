package origin

import (
	"fmt"
	"math"
	"math/rand"
	"slices"
	"strings"
	"testing"
	"unsafe"

	"hstsstore/api"
	"hstsstore/host"
	"hstsstore/url"
)

// defaults are the default ports of the special schemes.
var defaults = map[string]int{"http": 80, "ws": 80, "https": 443, "wss": 443}

var specials = []string{"http", "https", "ws", "wss"}

// ofByDefinition returns the result of Of by the definition.
func ofByDefinition(u api.URL) (api.Origin, bool) {
	standard, special := defaults[u.Scheme]
	if !special || !url.Valid(u) {
		return api.Origin{}, false
	}
	o := api.Origin{Scheme: u.Scheme, Host: u.Host, Port: u.Port}
	if u.Port == -1 {
		o.Port = standard
	}
	return o, true
}

// formatByDefinition returns the result of Format by the definition.
func formatByDefinition(o api.Origin) string {
	standard, special := defaults[o.Scheme]
	if !special || !host.Valid(o.Host) || o.Port < 0 || o.Port > 65535 {
		return ""
	}
	if o.Port == standard {
		return fmt.Sprintf("%s://%s", o.Scheme, host.Format(o.Host))
	}
	return fmt.Sprintf("%s://%s:%d", o.Scheme, host.Format(o.Host), o.Port)
}

// loopbackByDefinition returns the result of Loopback by the definition.
func loopbackByDefinition(h api.Host) bool {
	if !host.Valid(h) {
		return false
	}
	if h.Kind == api.HostDomain {
		return h.Name == "localhost" || slices.Contains(slices.Collect(host.Supers(h.Name)), "localhost")
	}
	text := host.Format(h)
	return text == "[::1]" || strings.HasPrefix(text, "127.")
}

// trustworthyByDefinition returns the result of Trustworthy by the definition.
func trustworthyByDefinition(u api.URL) bool {
	text := url.Format(u) // empty if u is not valid
	for _, start := range []string{"https:", "wss:", "file:"} {
		if strings.HasPrefix(text, start) {
			return true
		}
	}
	if strings.HasPrefix(text, "http:") || strings.HasPrefix(text, "ws:") {
		return loopbackByDefinition(u.Host)
	}
	return text == "about:blank" || text == "about:srcdoc"
}

// checkURL compares the results for u, which need not be valid, with their definitions.
func checkURL(t *testing.T, u api.URL) {
	t.Helper()
	want, wantOK := ofByDefinition(u)
	o, ok := Of(u)
	if o != want || ok != wantOK {
		t.Fatalf("Of(%+v) = %+v, %v, want %+v, %v", u, o, ok, want, wantOK)
	}
	checkFormat(t, o)
	if ok && Format(o) == "" {
		t.Fatalf("Format(%+v) is empty", o)
	}
	if got, want := Trustworthy(u), trustworthyByDefinition(u); got != want {
		t.Fatalf("Trustworthy(%+v) = %v", u, got)
	}
	checkLoopback(t, u.Host)
	if up := url.Upgrade(u); ok && (!Trustworthy(up) || up.Host != u.Host) {
		t.Fatalf("the upgrade of %+v is %+v", u, up)
	}
}

// checkFormat compares the text of o, which need not be an origin of a URL, with its
// definition.
func checkFormat(t *testing.T, o api.Origin) {
	t.Helper()
	want := formatByDefinition(o)
	if got := Format(o); got != want {
		t.Fatalf("Format(%+v) = %q, want %q", o, got, want)
	}
	if want == "" {
		return
	}
	// The text is a URL with this origin.
	u, err := url.Parse(want)
	if back, ok := Of(u); back != o || !ok || err != api.OK {
		t.Fatalf("Of(Parse(%q)) = %+v, %v, want %+v", want, back, ok, o)
	}
}

// checkLoopback compares the result for h, which need not be valid, with its definition.
func checkLoopback(t *testing.T, h api.Host) {
	t.Helper()
	if got, want := Loopback(h), loopbackByDefinition(h); got != want {
		t.Fatalf("Loopback(%+v) = %v", h, got)
	}
}

// parse returns the URL with the text s, which must be valid.
func parse(t *testing.T, s string) api.URL {
	t.Helper()
	u, err := url.Parse(s)
	if err != api.OK {
		t.Fatalf("Parse(%q) = _, %d", s, err)
	}
	return u
}

// domain returns the host with this name.
func domain(name string) api.Host { return api.Host{Kind: api.HostDomain, Name: name} }

// plain returns the URL of the host named a, with the default port and the rest "/".
func plain(scheme string) api.URL {
	return api.URL{Scheme: scheme, Host: domain("a"), Port: -1, Rest: "/"}
}

// texts calls f with all texts of at most n of the fragments.
func texts(fragments []string, n int, f func(s string)) {
	f("")
	if n == 0 {
		return
	}
	for _, fragment := range fragments {
		texts(fragments, n-1, func(s string) {
			f(s + fragment)
		})
	}
}

// P16.1: origins of valid URLs with special schemes, and their texts.
func TestOf(t *testing.T) {
	v4 := api.Host{Kind: api.HostIPv4, V4: 0x01020304}
	v6 := api.Host{Kind: api.HostIPv6, V6: [8]uint16{7: 1}}
	for _, c := range []struct {
		text   string
		want   api.Origin
		format string
	}{
		{"http://u@a:80/x", api.Origin{Scheme: "http", Host: domain("a"), Port: 80}, "http://a"},
		{"http://a", api.Origin{Scheme: "http", Host: domain("a"), Port: 80}, "http://a"},
		{"http://a:443/", api.Origin{Scheme: "http", Host: domain("a"), Port: 443}, "http://a:443"},
		{"http://a:0/", api.Origin{Scheme: "http", Host: domain("a"), Port: 0}, "http://a:0"},
		{"http://a:65535/", api.Origin{Scheme: "http", Host: domain("a"), Port: 65535}, "http://a:65535"},
		{"http://a:/", api.Origin{Scheme: "http", Host: domain("a"), Port: 80}, "http://a"},
		{"HTTPS://U:P@WWW.Example.COM.:0443?q#f", api.Origin{Scheme: "https", Host: domain("www.example.com"), Port: 443}, "https://www.example.com"},
		{"https://a:80", api.Origin{Scheme: "https", Host: domain("a"), Port: 80}, "https://a:80"},
		{"https://a:8443", api.Origin{Scheme: "https", Host: domain("a"), Port: 8443}, "https://a:8443"},
		{"ws://[::1]:9/", api.Origin{Scheme: "ws", Host: v6, Port: 9}, "ws://[::1]:9"},
		{"ws://[0::1]:80/", api.Origin{Scheme: "ws", Host: v6, Port: 80}, "ws://[::1]"},
		{"ws://[::1]:443/", api.Origin{Scheme: "ws", Host: v6, Port: 443}, "ws://[::1]:443"},
		{"wss://1.2.3.4/", api.Origin{Scheme: "wss", Host: v4, Port: 443}, "wss://1.2.3.4"},
		{"wss://0x1.2.0304:80/", api.Origin{Scheme: "wss", Host: api.Host{Kind: api.HostIPv4, V4: 0x010200C4}, Port: 80}, "wss://1.2.0.196:80"},
		{"wss://b\u00fccher/", api.Origin{Scheme: "wss", Host: domain("xn--bcher-kva"), Port: 443}, "wss://xn--bcher-kva"},
	} {
		u := parse(t, c.text)
		if o, ok := Of(u); o != c.want || !ok {
			t.Errorf("Of(%q) = %+v, %v, want %+v", c.text, o, ok, c.want)
		}
		if got := Format(c.want); got != c.format {
			t.Errorf("Format(%+v) = %q, want %q", c.want, got, c.format)
		}
		checkURL(t, u)
	}
}

// P16.1: other URLs have no origin.
func TestOfOthers(t *testing.T) {
	others := []api.URL{
		{}, {Port: -1}, {Scheme: "http"}, {Scheme: "http", Port: -1, Rest: "/"}, {Scheme: "https", Port: 80, Rest: "/"},
		{Scheme: "x", Host: domain("a"), Port: -1, Rest: "/"}, {Scheme: "HTTP", Host: domain("a"), Port: -1, Rest: "/"},
	}
	for _, text := range []string{"data:x", "data:", "file:///a", "file://a/", "about:blank", "about:srcdoc", "blob:https://a/x", "ftp://a/", "httpss://a:80/", "h://a", "x:", "javascript:1"} {
		others = append(others, parse(t, text))
	}
	for _, scheme := range specials {
		for _, change := range []func(u *api.URL){
			func(u *api.URL) { u.Scheme = strings.ToUpper(u.Scheme) },
			func(u *api.URL) { u.Scheme += ":" },
			func(u *api.URL) { u.User = "u/" },
			func(u *api.URL) { u.User = "u v" },
			func(u *api.URL) { u.Host = api.Host{} },
			func(u *api.URL) { u.Host.Kind = 4 },
			func(u *api.URL) { u.Host.Name = "A" },
			func(u *api.URL) { u.Host.Name = "a." },
			func(u *api.URL) { u.Host.Name = "a:8" },
			func(u *api.URL) { u.Host.V4 = 1 },
			func(u *api.URL) { u.Host.V6[0] = 1 },
			func(u *api.URL) { u.Port = defaults[u.Scheme] },
			func(u *api.URL) { u.Port = -2 },
			func(u *api.URL) { u.Port = 65536 },
			func(u *api.URL) { u.Port = math.MinInt },
			func(u *api.URL) { u.Port = math.MaxInt },
			func(u *api.URL) { u.Rest = "" },
			func(u *api.URL) { u.Rest = "x" },
			func(u *api.URL) { u.Rest = "?" },
			func(u *api.URL) { u.Rest = "/ " },
			func(u *api.URL) { u.Rest = "/\x7f" },
		} {
			u := plain(scheme)
			change(&u)
			others = append(others, u)
		}
		if _, ok := Of(plain(scheme)); !ok {
			t.Errorf("Of(%+v) = _, false", plain(scheme))
		}
	}
	for _, u := range others {
		if o, ok := Of(u); o != (api.Origin{}) || ok {
			t.Errorf("Of(%+v) = %+v, %v", u, o, ok)
		}
		checkURL(t, u)
	}
}

// P16.1: every port with every special scheme.
func TestEveryPort(t *testing.T) {
	for _, scheme := range specials {
		for port := -3; port < 66000; port++ {
			u := plain(scheme)
			o := api.Origin{Scheme: scheme, Host: u.Host, Port: port}
			text := ""
			switch {
			case port == defaults[scheme]:
				text = scheme + "://a"
			case 0 <= port && port <= 65535:
				u.Port = port
				text = fmt.Sprintf("%s://a:%d", scheme, port)
			}
			if got := Format(o); got != text {
				t.Fatalf("Format(%+v) = %q, want %q", o, got, text)
			}
			if got, ok := Of(u); text != "" && (got != o || !ok) {
				t.Fatalf("Of(%+v) = %+v, %v, want %+v", u, got, ok, o)
			}
		}
	}
}

// P16.1: the text of what is no origin of any URL is empty.
func TestFormatOfOthers(t *testing.T) {
	others := []api.Origin{{}, {Scheme: "http"}, {Host: domain("a")}, {Port: 80}, {Host: domain("a"), Port: 80}, {Scheme: "http", Port: 80}}
	for _, scheme := range []string{"", "ftp", "file", "data", "about", "HTTP", "Https", "http:", "http ", "http://a", "htt", "httpss", "h\x00ttp", "\xff"} {
		for _, port := range []int{-1, 0, 80, 443} {
			others = append(others, api.Origin{Scheme: scheme, Host: domain("a"), Port: port})
		}
	}
	hosts := []api.Host{
		{}, {Name: "a"}, {Kind: 4, Name: "a"}, {Kind: -1}, {Kind: math.MaxInt, V4: 1}, {Kind: api.HostDomain}, domain("A"), domain("a."), domain(".a"), domain("a..b"), domain("1"), domain("a.0x1"), domain("1.2.3.4"), domain("a/b"), domain("a/"), domain("u@a"), domain("a:80"), domain("[::1]"), domain("%61"), domain("\u00fc"), domain("a?"), domain("a#"), domain(" a"), domain("-a"), domain("xn--z"), domain(strings.Repeat("a", 64)), domain(strings.Repeat("a.", 126) + "aa"),
		{Kind: api.HostDomain, Name: "a", V4: 1}, {Kind: api.HostDomain, Name: "a", V6: [8]uint16{7: 1}}, {Kind: api.HostIPv4, Name: "a"}, {Kind: api.HostIPv4, V6: [8]uint16{1}}, {Kind: api.HostIPv6, Name: "a"}, {Kind: api.HostIPv6, V4: 1},
	}
	for _, scheme := range specials {
		for _, h := range hosts {
			for _, port := range []int{-1, 0, 80, 443} {
				others = append(others, api.Origin{Scheme: scheme, Host: h, Port: port})
			}
		}
		for _, port := range []int{-1, -2, -80, -443, math.MinInt, math.MinInt + 80, 65536, 65536 + 80, 65536 + 443, 1<<32 + 80, math.MaxInt} {
			others = append(others, api.Origin{Scheme: scheme, Host: domain("a"), Port: port})
		}
	}
	for _, o := range others {
		if got := Format(o); got != "" {
			t.Errorf("Format(%+v) = %q", o, got)
		}
		checkFormat(t, o)
	}
}

// P16.1: origins with every valid host of some, and the longest one.
func TestFormatOfHosts(t *testing.T) {
	for _, h := range []api.Host{
		domain("a"), domain("_"), domain("a-b.c_d.x9"), domain("0x.a"), domain("localhost"), domain("xn--bcher-kva.com"), domain("http"), domain("a.b.c.d.e.f"), domain(strings.Repeat("a", 63)), domain(strings.Repeat("a.", 126) + "a"),
		{Kind: api.HostIPv4}, {Kind: api.HostIPv4, V4: 1}, {Kind: api.HostIPv4, V4: math.MaxUint32}, {Kind: api.HostIPv6}, {Kind: api.HostIPv6, V6: [8]uint16{1, 2, 3, 4, 5, 6, 7, 8}}, {Kind: api.HostIPv6, V6: [8]uint16{5: 0xFFFF, 6: 0x7F00, 7: 1}},
	} {
		for _, scheme := range specials {
			for _, port := range []int{0, 1, 79, 80, 81, 442, 443, 444, 8080, 65535} {
				o := api.Origin{Scheme: scheme, Host: h, Port: port}
				want := scheme + "://" + host.Format(h)
				if port != defaults[scheme] {
					want += fmt.Sprintf(":%d", port)
				}
				if got := Format(o); got != want {
					t.Errorf("Format(%+v) = %q, want %q", o, got, want)
				}
				checkFormat(t, o)
			}
		}
	}
}

// P16.1: two URLs have equal origins exactly if the texts of their origins are equal.
func TestEqualOrigins(t *testing.T) {
	// The URLs of one line have the same origin.
	groups := [][]string{
		{"http://a/", "http://a:80/", "HTTP://A.:/x", "http://u@a", "http://u:p@a:080?q", "http://%61#f"},
		{"https://a/", "https://a:443/x", "https://u@A"},
		{"ws://a/", "ws://a:80", "ws://@a"},
		{"wss://a/", "wss://a:443?https://a"},
		{"http://a:443/", "http://a:0443"},
		{"https://a:80/", "https://u:80@a:80/"},
		{"ws://a:443/"},
		{"wss://a:80/"},
		{"http://a:0/", "http://a:00/"},
		{"http://a:8/"},
		{"http://a:8080/"},
		{"http://a.b/", "http://A.B./"},
		{"http://b/", "http://a@b/"},
		{"http://127.0.0.1/", "http://127.1", "http://0x7f000001:80", "http://2130706433"},
		{"http://[::1]/", "http://[0:0::0:1]:80"},
		{"http://[::127.0.0.1]/", "http://[::7F00:1]"},
		{"http://[::ffff:127.0.0.1]/"},
	}
	for i, group := range groups {
		for j, other := range groups {
			for _, s := range group {
				for _, z := range other {
					a, okA := Of(parse(t, s))
					b, okB := Of(parse(t, z))
					if !okA || !okB || (a == b) != (i == j) || (Format(a) == Format(b)) != (i == j) {
						t.Errorf("the origins of %q and %q are %q and %q", s, z, Format(a), Format(b))
					}
				}
			}
		}
	}
}

// P16.2: IPv4 addresses are loopback hosts if their first byte is 127.
func TestLoopbackIPv4(t *testing.T) {
	for first := range uint32(256) {
		for second := range uint32(256) {
			for _, rest := range []uint32{0, 1, 0x7F, 0x7F00, 0xFFFF} {
				h := api.Host{Kind: api.HostIPv4, V4: first<<24 | second<<16 | rest}
				if got := Loopback(h); got != (first == 127) {
					t.Fatalf("Loopback(%+v) = %v", h, got)
				}
			}
		}
	}
	for v4, want := range map[uint32]bool{0x7EFFFFFF: false, 0x7F000000: true, 0x7F000001: true, 0x7FFFFFFF: true, 0x80000000: false, 0xFF000001: false, 0x0100007F: false, 0x7F: false, 0: false, 1: false} {
		h := api.Host{Kind: api.HostIPv4, V4: v4}
		if got := Loopback(h); got != want {
			t.Errorf("Loopback(%+v) = %v", h, got)
		}
		checkLoopback(t, h)
	}
}

// P16.2: the only IPv6 address of a loopback host is ::1.
func TestLoopbackIPv6(t *testing.T) {
	one := [8]uint16{7: 1}
	if !Loopback(api.Host{Kind: api.HostIPv6, V6: one}) {
		t.Error("::1 is no loopback host")
	}
	for group := range one {
		for value := range 1 << 16 {
			v6 := one
			v6[group] = uint16(value)
			if got := Loopback(api.Host{Kind: api.HostIPv6, V6: v6}); got != (v6 == one) {
				t.Fatalf("Loopback of %x = %v", v6, got)
			}
			v6[7] = 0
			if got := Loopback(api.Host{Kind: api.HostIPv6, V6: v6}); got {
				t.Fatalf("Loopback of %x = true", v6)
			}
		}
	}
	for _, text := range []string{"[::]", "[::2]", "[1::]", "[1::1]", "[::1:1]", "[::127.0.0.1]", "[::ffff:127.0.0.1]", "[7f00::]", "[::100]", "[fe80::1]"} {
		h, err := host.Parse(text)
		if Loopback(h) || err != api.OK {
			t.Errorf("%s is a loopback host, or %d", text, err)
		}
	}
}

// P16.2: the domain localhost and those whose superdomain it is.
func TestLoopbackDomains(t *testing.T) {
	for name, want := range map[string]bool{
		"localhost": true, "a.localhost": true, "a.b.localhost": true, "localhost.localhost": true, "_.localhost": true, "1.localhost": true, "127.0.0.1.localhost": true, "xn--bcher-kva.localhost": true, "a.com.localhost": true, strings.Repeat("a", 63) + ".localhost": true, strings.Repeat("a.", 122) + "localhost": true,
		"a": false, "localhos": false, "ocalhost": false, "xlocalhost": false, "a.xlocalhost": false, "-localhost": false, "x-localhost": false, "x_localhost": false, "localhostx": false, "localhost0": false, "localhost.example": false, "a.localhost.example": false, "localhost.com": false, "localhost.localdomain": false, "local.host": false, "localhost6": false, "a.localhost.b": false,
		// These are not canonical.
		"": false, "LOCALHOST": false, "Localhost": false, "a.LOCALHOST": false, "A.localhost": false, "localhost.": false, ".localhost": false, "a..localhost": false, "a.localhost.": false, "..localhost": false, "-.localhost": false, "-a.localhost": false, "a-.localhost": false, " localhost": false, "localhost ": false, "localhost\x00": false, "\u00fc.localhost": false, "\xff.localhost": false, "xn--z.localhost": false, "*.localhost": false, "u@localhost": false, "localhost:80": false, "localhost.1": false, "localhost.0x1": false, "127.0.0.1": false, "[::1]": false,
		strings.Repeat("a", 64) + ".localhost": false, strings.Repeat("a.", 123) + "localhost": false,
	} {
		h := domain(name)
		if got := Loopback(h); got != want {
			t.Errorf("Loopback(%+v) = %v", h, got)
		}
		checkLoopback(t, h)
	}
	texts([]string{"localhost", "local", "host", ".", "a", "-", "L", "1"}, 5, func(name string) {
		checkLoopback(t, domain(name))
	})
	// Every byte in each place of a name, and between them.
	for _, name := range []string{"localhost", "a.localhost"} {
		for i := range len(name) + 1 {
			for b := range 256 {
				checkLoopback(t, domain(name[:i]+string([]byte{byte(b)})+name[i:]))
				if i < len(name) {
					checkLoopback(t, domain(name[:i]+string([]byte{byte(b)})+name[i+1:]))
				}
			}
		}
	}
}

// P16.2: hosts that are not valid are no loopback hosts.
func TestLoopbackOfOthers(t *testing.T) {
	loops := []api.Host{}
	for _, kind := range []int{math.MinInt, -1, 0, 1, 2, 3, 4, 257, 258, 259, math.MaxInt} {
		for _, name := range []string{"", "localhost", "a.localhost", "x", "127.0.0.1", "::1", "[::1]"} {
			for _, v4 := range []uint32{0, 1, 0x7F000001, 0x7F000000} {
				for _, v6 := range [][8]uint16{{}, {7: 1}, {0: 1}} {
					h := api.Host{Kind: kind, Name: name, V4: v4, V6: v6}
					checkLoopback(t, h)
					if Loopback(h) {
						loops = append(loops, h)
					}
				}
			}
		}
	}
	want := []api.Host{domain("localhost"), domain("a.localhost"), {Kind: api.HostIPv4, V4: 0x7F000001}, {Kind: api.HostIPv4, V4: 0x7F000000}, {Kind: api.HostIPv6, V6: [8]uint16{7: 1}}}
	if !slices.Equal(loops, want) {
		t.Errorf("the loopback hosts are %+v, want %+v", loops, want)
	}
}

// P16.2: which valid URLs are potentially trustworthy.
func TestTrustworthy(t *testing.T) {
	for text, want := range map[string]bool{
		"https://a/": true, "HTTPS://u@A:80/x": true, "https://1.2.3.4": true, "https://[::2]/": true, "https://localhost/": true, "wss://a/": true, "WSS://a:80?x": true, "wss://[1::]": true, "wss://127.0.0.1:1/": true,
		"http://a/": false, "http://a:443/": false, "http://https/": false, "http://https:443/": false, "http://a/https://b/": false, "http://localhost@a/": false, "http://a/localhost": false, "http://a?.localhost": false, "http://a#.localhost": false, "ws://a/": false, "ws://a:443/": false, "ws://wss@a/": false,
		"http://localhost/": true, "http://LOCALHOST./": true, "http://u@localhost:8080/x?y#z": true, "http://x.y.localhost:443/": true, "ws://localhost": true, "ws://x.localhost:1": true, "http://%6cocalhost/": true, "http://a@localhost/": true, "http://b\u00fccher.localhost/": true,
		"http://localhost.example/": false, "http://xlocalhost/": false, "http://localhostx/": false, "http://local/": false, "ws://localhost.example": false, "ws://localhost.com:80": false,
		"http://127.0.0.1/": true, "http://127.5.6.7:9/": true, "http://127.255.255.255/": true, "http://127.0.0.0/": true, "ws://127.1/": true, "http://0x7f.1/": true, "http://2130706433/": true, "ws://u@0177.0.0.1./": true,
		"http://126.255.255.255/": false, "http://128.0.0.0/": false, "http://0.0.0.127/": false, "http://127/": false, "http://0.0.0.0/": false, "ws://1.127.0.0/": false,
		"http://[::1]/": true, "ws://[::1]:8/": true, "ws://[0:0:0:0:0:0:0:1]": true, "http://[::0.0.0.1]": true, "http://[::2]/": false, "http://[::]/": false, "http://[::127.0.0.1]/": false, "ws://[::ffff:127.0.0.1]/": false, "ws://[1::]": false,
		"file:": true, "file:x": true, "file:///x": true, "FILE://a/": true, "file://localhost/x": true, "file:http://a/": true, "files:///x": false, "fil:///x": false, "xfile:": false, "file+x:": false,
		"about:blank": true, "about:srcdoc": true, "ABOUT:blank": true, "About:srcdoc": true,
		"about:": false, "about:config": false, "about:Blank": false, "about:BLANK": false, "about:SRCDOC": false, "about:blank#x": false, "about:blank?x": false, "about:blank?": false, "about:blank/": false, "about:/blank": false, "about://blank": false, "about:srcdoc#": false, "about:srcdoc?x": false, "about:srcdoc/": false, "about:blan": false, "about:lank": false, "about:srcdo": false, "about:blanksrcdoc": false, "about:blank,srcdoc": false, "about:about:blank": false, "about:https": false, "about:%62lank": false, "abou:blank": false, "abouts:blank": false, "about+:srcdoc": false, "blank:about": false, "blank:": false, "srcdoc:blank": false,
		"data:,x": false, "data:text/html,https://a/": false, "blob:https://a/x": false, "blob:http://localhost/": false, "ftp://localhost/": false, "ftp://127.0.0.1/": false, "ftp:": false, "x://[::1]/": false, "javascript:1": false, "httpss://a/": false, "https+x://a/": false, "wsss://a/": false, "view-source:https://a/": false, "filesystem:https://a/": false,
	} {
		u := parse(t, text)
		if got := Trustworthy(u); got != want {
			t.Errorf("Trustworthy(%q) = %v", text, got)
		}
		checkURL(t, u)
	}
}

// P16.2: every byte in each place of the documents of the scheme about, and short texts.
func TestAbout(t *testing.T) {
	trustworthy := func(rest string) bool {
		u := api.URL{Scheme: "about", Port: -1, Rest: rest}
		checkURL(t, u)
		return Trustworthy(u)
	}
	for _, rest := range []string{"blank", "srcdoc"} {
		if !trustworthy(rest) {
			t.Errorf("about:%s is not trustworthy", rest)
		}
		for i := range len(rest) + 1 {
			for b := range 256 {
				s := string([]byte{byte(b)})
				if trustworthy(rest[:i] + s + rest[i:]) {
					t.Errorf("about:%s is trustworthy", rest[:i]+s+rest[i:])
				}
				if i < len(rest) && trustworthy(rest[:i]+s+rest[i+1:]) != (rest[i] == byte(b)) {
					t.Errorf("the result for about:%s is wrong", rest[:i]+s+rest[i+1:])
				}
			}
			if i < len(rest) && trustworthy(rest[:i]) {
				t.Errorf("about:%s is trustworthy", rest[:i])
			}
		}
	}
}

// P16.2: URLs that are not valid are not trustworthy.
func TestTrustworthyOfOthers(t *testing.T) {
	local := domain("localhost")
	for _, u := range []api.URL{
		{}, {Port: -1}, {Scheme: "https"}, {Scheme: "https", Port: -1, Rest: "/"}, {Scheme: "HTTPS", Host: domain("a"), Port: -1, Rest: "/"}, {Scheme: "https", Host: domain("A"), Port: -1, Rest: "/"}, {Scheme: "https", Host: domain("a"), Port: 443, Rest: "/"}, {Scheme: "https", Host: domain("a"), Port: 65536, Rest: "/"}, {Scheme: "https", Host: domain("a"), Port: -1}, {Scheme: "https", Host: domain("a"), Port: -1, Rest: "/ "}, {Scheme: "https", User: "/", Host: domain("a"), Port: -1, Rest: "/"},
		{Scheme: "wss", Port: -1, Rest: "/"}, {Scheme: "wss", Host: domain("a"), Port: 443, Rest: "/"}, {Scheme: "wss", Host: domain("a"), Port: -1, Rest: "x"}, {Scheme: "wss", Host: domain("a"), Port: -2, Rest: "/"},
		{Scheme: "http", Host: local}, {Scheme: "http", Host: local, Port: -1}, {Scheme: "http", Host: local, Port: 80, Rest: "/"}, {Scheme: "http", Host: local, Port: -1, Rest: "/\x00"}, {Scheme: "http", User: "?", Host: local, Port: -1, Rest: "/"}, {Scheme: "ws", Host: domain("LOCALHOST"), Port: -1, Rest: "/"}, {Scheme: "ws", Host: local, Port: 65536, Rest: "/"}, {Scheme: "WS", Host: local, Port: -1, Rest: "/"}, {Scheme: "ws", Host: api.Host{Kind: api.HostIPv4, V4: 0x7F000001, Name: "a"}, Port: -1, Rest: "/"}, {Scheme: "http", Host: api.Host{V4: 0x7F000001}, Port: -1, Rest: "/"},
		{Scheme: "", Host: local, Port: -1, Rest: "/"}, {Scheme: "x", Host: local, Port: -1, Rest: "/"}, {Scheme: "ftp", Host: api.Host{Kind: api.HostIPv4, V4: 0x7F000001}, Port: -1},
		{Scheme: "file"}, {Scheme: "FILE", Port: -1}, {Scheme: "file", Port: 80}, {Scheme: "file", Port: -1, Rest: "///x y"}, {Scheme: "file", User: "u", Port: -1}, {Scheme: "file", Host: local, Port: -1, Rest: "/"},
		{Scheme: "about", Rest: "blank"}, {Scheme: "about", Port: 80, Rest: "srcdoc"}, {Scheme: "ABOUT", Port: -1, Rest: "blank"}, {Scheme: "about", User: "u", Port: -1, Rest: "blank"}, {Scheme: "about", Host: local, Port: -1, Rest: "srcdoc"}, {Scheme: "about:", Port: -1, Rest: "blank"}, {Scheme: "", Port: -1, Rest: "about:blank"},
	} {
		if Trustworthy(u) {
			t.Errorf("Trustworthy(%+v) = true", u)
		}
		checkURL(t, u)
	}
}

// P16.1 and P16.2: the limit for the length of a text does not make a URL invalid.
func TestLongTexts(t *testing.T) {
	for _, start := range []string{"http://a/", "ws://localhost:443/", "https://a:8/"} {
		u := parse(t, start+strings.Repeat("x", 2048-len(start)))
		up := url.Upgrade(u)
		checkURL(t, u)
		checkURL(t, up)
		u.Rest += strings.Repeat("y", 1<<16)
		checkURL(t, u)
		if _, ok := Of(u); !ok || !Trustworthy(up) {
			t.Errorf("a URL that begins with %s has no origin, or its upgrade is not trustworthy", start)
		}
		u.Rest += " "
		checkURL(t, u)
		if _, ok := Of(u); ok || Trustworthy(u) {
			t.Errorf("a URL with a space has an origin, or is trustworthy")
		}
	}
	for _, long := range []string{strings.Repeat("a", 1<<20), strings.Repeat("a.", 1<<19) + "localhost"} {
		checkFormat(t, api.Origin{Scheme: "http", Host: domain(long), Port: 80})
		checkFormat(t, api.Origin{Scheme: long, Host: domain("a"), Port: 80})
		checkLoopback(t, domain(long))
		checkURL(t, api.URL{Scheme: "http", User: long, Host: domain(long), Port: -1, Rest: "/" + long})
		checkURL(t, api.URL{Scheme: long, Port: -1, Rest: long})
	}
}

// P16.1 and P16.2: combinations of parts, valid and not.
func TestCombinations(t *testing.T) {
	schemes := []string{"", "http", "https", "ws", "wss", "file", "about", "data", "HTTP"}
	hosts := []api.Host{{}, domain("a"), domain("localhost"), domain("a.localhost"), domain("A"), {Kind: api.HostIPv4, V4: 0x7F000001}, {Kind: api.HostIPv4, V4: 0x80000001}, {Kind: api.HostIPv6}, {Kind: api.HostIPv6, V6: [8]uint16{7: 1}}, {Kind: 9}}
	ports := []int{math.MinInt, -2, -1, 0, 1, 80, 443, 8080, 65535, 65536, math.MaxInt}
	origins, trustworthy := 0, 0
	for _, scheme := range schemes {
		for _, user := range []string{"", "u", "u@v", "u/"} {
			for _, h := range hosts {
				for _, port := range ports {
					checkFormat(t, api.Origin{Scheme: scheme, Host: h, Port: port})
					for _, rest := range []string{"", "/", "x", "/x?y", "blank", "srcdoc", "blank ", "/ "} {
						u := api.URL{Scheme: scheme, User: user, Host: h, Port: port, Rest: rest}
						checkURL(t, u)
						if _, ok := Of(u); ok {
							origins++
						}
						if Trustworthy(u) {
							trustworthy++
						}
					}
				}
			}
		}
	}
	// Four special schemes with three users, seven hosts, six ports and two rests.
	if want := 4 * 3 * 7 * 6 * 2; origins != want {
		t.Errorf("%d of the URLs have origins, want %d", origins, want)
	}
	// Two of these schemes with all of these hosts, two with four of them, file with six
	// rests and about with two.
	if want := (2*7+2*4)*3*6*2 + 6 + 2; trustworthy != want {
		t.Errorf("%d of the URLs are trustworthy, want %d", trustworthy, want)
	}
}

// P16.1 and P16.2: random texts.
func TestRandomTexts(t *testing.T) {
	r := rand.New(rand.NewSource(16))
	starts := []string{"http://", "http://", "https://", "ws://", "wss://", "http://u@", "about:", "file:", "data:", "HTTP://LOCALHOST"}
	fragments := []string{"a", ".", "localhost", "127", "0", ".localhost", "127.0.0.1", "[::1]", "b.com", ":", ":80", ":443", "/", "?", "blank", "srcdoc", "@", "::", "x"}
	origins, trustworthy := 0, 0
	for range 100000 {
		text := starts[r.Intn(len(starts))]
		for range 1 + r.Intn(5) {
			text += fragments[r.Intn(len(fragments))]
		}
		u, err := url.Parse(text)
		checkURL(t, u)
		if err != api.OK {
			continue
		}
		o, ok := Of(u)
		if ok {
			origins++
		}
		if Trustworthy(u) {
			trustworthy++
		}
		// Neither the user nor the rest is part of the origin.
		u.User, u.Rest = "other:user", "/other?rest"
		if again, okAgain := Of(u); ok && (again != o || !okAgain) {
			t.Fatalf("Of(%+v) = %+v, %v, want %+v", u, again, okAgain, o)
		}
	}
	if origins < 20000 || trustworthy < 10000 {
		t.Errorf("only %d URLs have origins, and %d are trustworthy", origins, trustworthy)
	}
}

// overwrite replaces all bytes of s, which must not be a constant.
func overwrite(s string) {
	clear(unsafe.Slice(unsafe.StringData(s), len(s)))
}

// copied returns a copy of s that can be overwritten.
func copied(s string) string { return string([]byte(s)) }

// P16.1: the results share no memory with the arguments, nor with one another.
func TestMemory(t *testing.T) {
	for _, text := range []string{"http://http:8/http", "wss://u@a.b/x", "https://127.0.0.1:1"} {
		want, _ := Of(parse(t, text))
		wantText := Format(want)
		u := parse(t, text)
		u.Scheme, u.Host.Name = copied(u.Scheme), copied(u.Host.Name)
		o, _ := Of(u)
		again, _ := Of(u)
		overwrite(u.Scheme)
		overwrite(u.Host.Name)
		if o != want || again != want {
			t.Errorf("the origin of %q became %+v", text, o)
		}
		formatted := Format(o)
		formattedAgain := Format(o)
		overwrite(o.Host.Name)
		if o.Scheme != want.Scheme {
			t.Errorf("the parts of the origin of %q share memory: %+v", text, o)
		}
		overwrite(o.Scheme)
		if again != want {
			t.Errorf("the origins of %q share memory: %+v", text, again)
		}
		overwrite(formattedAgain)
		if formatted != wantText {
			t.Errorf("the text of the origin of %q became %q", text, formatted)
		}
	}
}

// P16.1 and P16.2: the examples of the chapter.
func TestExamples(t *testing.T) {
	o, ok := Of(parse(t, "http://u@a:80/x"))
	if got := Format(o); got != "http://a" || !ok {
		t.Errorf("the origin is written %q, %v", got, ok)
	}
	for text, want := range map[string]bool{"http://127.5.6.7/": true, "ws://[::1]/": true, "http://x.localhost/": true, "http://localhost.example/": false} {
		if got := Trustworthy(parse(t, text)); got != want {
			t.Errorf("Trustworthy(%q) = %v", text, got)
		}
	}
}
