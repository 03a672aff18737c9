package pintable

import (
	"fmt"
	"maps"
	"math"
	"math/rand"
	"slices"
	"strings"
	"testing"
	"unsafe"

	"hstsstore/api"
)

// longest is a domain name of MaxDomain bytes.
var longest = strings.Repeat(strings.Repeat("a", 62)+".", 4) + "b"

// ordered are canonical domain names in their order, and others are not canonical.
var (
	ordered = []string{"0a", "a", "a.a", "a-b.a", "b.a", "a.b.a", "a-b", "ab", longest, "com", "a.com", "x.a.com", "y.x.a.com", "b.com", "a.net", "xn--tda"}
	others  = []string{"", ".", "a.", ".a", "a..b", "A", "a.B", "A.com", "a b", "-", "1.2.3.4", "a.1", "[::1]", "\x00", "\xFF", "\u00FC", "xn--", longest + "b", longest + "."}
)

// moments are readings of the clock, and noTimes are expiries that no valid pin has.
var (
	moments = []int{math.MinInt, -api.MaxTime, -1, 0, 1, 2, 3, 4, 5, 1 << 31, 1 << 32, api.MaxTime - 1, api.MaxTime, api.MaxTime + 1, math.MaxInt}
	noTimes = []int{math.MinInt, -api.MaxTime, -1, api.MaxTime + 1, 2 * api.MaxTime, math.MaxInt}
)

// ranges are capacities that a table can have, and noRanges are none.
var (
	ranges   = []int{1, 2, 3, 4, 9, 100, api.MaxPins - 1, api.MaxPins}
	noRanges = []int{math.MinInt, -api.MaxPins, -1, 0, api.MaxPins + 1, 1 << 16, 1<<32 + 1, math.MaxInt}
)

// at returns a pin.
func at(host string, expiry int) api.Pin { return api.Pin{Host: host, Expiry: expiry} }

// sub returns a pin with subdomains.
func sub(host string, expiry int) api.Pin {
	return api.Pin{Host: host, IncludeSub: true, Expiry: expiry}
}

// compareByDefinition compares names by their labels from the last one to the first one.
func compareByDefinition(a, b string) int {
	x, y := strings.Split(a, "."), strings.Split(b, ".")
	slices.Reverse(x)
	slices.Reverse(y)
	return slices.Compare(x, y)
}

// A definition is a table as the chapter describes it.
type definition struct {
	pins     map[string]api.Pin
	capacity int
}

// list returns the pins that have not expired at now, in order.
func (d definition) list(now int) []api.Pin {
	var list []api.Pin
	for _, host := range slices.SortedFunc(maps.Keys(d.pins), compareByDefinition) {
		if d.pins[host].Expiry > now {
			list = append(list, d.pins[host])
		}
	}
	return list
}

func (d definition) put(p api.Pin, valid bool) api.Errno {
	_, found := d.pins[p.Host]
	switch {
	case !valid:
		return api.ErrInvalid
	case !found && len(d.pins) >= d.capacity:
		return api.ErrFull
	}
	d.pins[p.Host] = p
	return api.OK
}

func (d definition) remove(host string) bool {
	_, found := d.pins[host]
	delete(d.pins, host)
	return found
}

func (d definition) expire(now int) int {
	before := len(d.pins)
	maps.DeleteFunc(d.pins, func(_ string, p api.Pin) bool { return p.Expiry <= now })
	return before - len(d.pins)
}

// collected returns the pins that All yields, whose indexes must be 0, 1, 2 and so on.
func collected(t *testing.T, x *Table) []api.Pin {
	t.Helper()
	var list []api.Pin
	for i, p := range x.All() {
		if i != len(list) {
			t.Errorf("the index %d comes at %d", i, len(list))
		}
		list = append(list, p)
	}
	return list
}

// checkTable compares what all methods without an effect return for x.
func checkTable(t *testing.T, x *Table, d definition) {
	t.Helper()
	want := d.list(math.MinInt)
	if x.Len() != len(want) || x.Capacity() != d.capacity {
		t.Errorf("the table has %d pins and the capacity %d, want %d and %d", x.Len(), x.Capacity(), len(want), d.capacity)
	}
	if got := x.Pins(); !slices.Equal(got, want) {
		t.Errorf("Pins returns %v, want %v", got, want)
	}
	if got := collected(t, x); !slices.Equal(got, want) {
		t.Errorf("All yields %v, want %v", got, want)
	}
	for _, host := range slices.Concat(ordered, others) {
		p, found := d.pins[host]
		if got, ok := x.Get(host); got != p || ok != found {
			t.Errorf("Get(%.100q) is %v and %v, want %v and %v", host, got, ok, p, found)
		}
	}
	for _, now := range moments {
		if got := slices.Collect(x.Live(now)); !slices.Equal(got, d.list(now)) {
			t.Errorf("Live(%d) yields %v, want %v", now, got, d.list(now))
		}
	}
}

// checkLoaded checks that the table which Load makes of the pins of x has the same contents.
func checkLoaded(t *testing.T, x *Table, d definition) {
	t.Helper()
	y, err := Load(x.Pins(), x.Capacity())
	if y == nil || err != api.OK {
		t.Fatalf("Load(%v, %d) returns the error %d", x.Pins(), x.Capacity(), err)
	}
	checkTable(t, y, d)
}

// empty returns an empty table with this capacity, and its definition.
func empty(t *testing.T, capacity int) (*Table, definition) {
	t.Helper()
	x, err := New(capacity)
	if x == nil || err != api.OK {
		t.Fatalf("New(%d) returns the error %d", capacity, err)
	}
	return x, definition{map[string]api.Pin{}, capacity}
}

// filled returns a table that contains these pins, which were put in this order, and its
// definition.
func filled(t *testing.T, capacity int, pins ...api.Pin) (*Table, definition) {
	t.Helper()
	x, d := empty(t, capacity)
	for _, p := range pins {
		checkPut(t, x, d, p, true)
	}
	return x, d
}

// checkPut puts p into x and compares the error; valid tells whether p is a valid pin.
func checkPut(t *testing.T, x *Table, d definition, p api.Pin, valid bool) {
	t.Helper()
	want := d.put(p, valid)
	if err := x.Put(p); err != want {
		t.Errorf("Put(%.100q) returns the error %d, want %d", fmt.Sprint(p), err, want)
	}
}

func checkRemove(t *testing.T, x *Table, d definition, host string) {
	t.Helper()
	want := d.remove(host)
	if got := x.Remove(host); got != want {
		t.Errorf("Remove(%.100q) is %v, want %v", host, got, want)
	}
}

func checkExpire(t *testing.T, x *Table, d definition, now int) {
	t.Helper()
	want := d.expire(now)
	if got := x.Expire(now); got != want {
		t.Errorf("Expire(%d) is %d, want %d", now, got, want)
	}
}

// P23.1: New, for all capacities around the borders of the range.
func TestNew(t *testing.T) {
	for _, capacity := range ranges {
		x, d := empty(t, capacity)
		checkTable(t, x, d)
		checkLoaded(t, x, d)
	}
	for capacity := -5; capacity <= api.MaxPins+5; capacity++ {
		x, err := New(capacity)
		if ok := 1 <= capacity && capacity <= api.MaxPins; (x != nil) != ok || (err == api.OK) != ok {
			t.Errorf("New(%d) returns the error %d", capacity, err)
		}
	}
	for _, capacity := range noRanges {
		if x, err := New(capacity); x != nil || err != api.ErrRange {
			t.Errorf("New(%d) returns the error %d", capacity, err)
		}
	}
}

// P23.1: two tables have nothing in common.
func TestTablesAreIndependent(t *testing.T) {
	x, d := filled(t, 3, at("a", 1))
	y, e := filled(t, 2, at("b", 1), at("a", 2))
	z, err := Load(y.Pins(), 2)
	if err != api.OK {
		t.Fatal(err)
	}
	checkPut(t, x, d, at("com", 3), true)
	checkRemove(t, y, e, "b")
	checkTable(t, x, d)
	checkTable(t, y, e)
	e.pins["b"] = at("b", 1)
	checkTable(t, z, e)
}

// loadByDefinition returns the error of Load; valid tells for each pin whether it is valid.
func loadByDefinition(pins []api.Pin, valid func(api.Pin) bool, capacity int) api.Errno {
	switch {
	case capacity < 1 || capacity > api.MaxPins:
		return api.ErrRange
	case len(pins) > capacity:
		return api.ErrFull
	}
	for i := range pins {
		if !valid(pins[i]) {
			return api.ErrInvalid
		}
		if i > 0 && compareByDefinition(pins[i].Host, pins[i-1].Host) <= 0 {
			return api.ErrOrder
		}
	}
	return api.OK
}

func checkLoad(t *testing.T, pins []api.Pin, valid func(api.Pin) bool, capacity int) {
	t.Helper()
	want := loadByDefinition(pins, valid, capacity)
	x, err := Load(pins, capacity)
	if err != want || (x != nil) != (want == api.OK) {
		t.Fatalf("Load(%.200q, %d) returns the error %d, want %d", fmt.Sprint(pins), capacity, err, want)
	}
	if want != api.OK {
		return
	}
	if got := x.Pins(); !slices.Equal(got, pins) || x.Len() != len(pins) || x.Capacity() != capacity {
		t.Errorf("Load(%.200q, %d) returns a table of %.200q", fmt.Sprint(pins), capacity, fmt.Sprint(got))
	}
}

// lists calls f with each list of up to n of the pins.
func lists(pins []api.Pin, n int, f func(list []api.Pin)) {
	f(nil)
	if n == 0 {
		return
	}
	for _, p := range pins {
		lists(pins, n-1, func(list []api.Pin) {
			f(append([]api.Pin{p}, list...))
		})
	}
}

// P23.1: Load, for all lists of up to four pins that are valid and in order or not, with all
// capacities: which error comes first.
func TestLoad(t *testing.T) {
	pins := []api.Pin{at("b", 1), sub("x.b", 2), at("c", api.MaxTime), at("ab", 0), at("b", -1), at("B", 1), {Host: "d.e", Expiry: api.MaxTime + 1}}
	valid := func(p api.Pin) bool { return slices.Contains(pins[:4], p) }
	lists(pins, 4, func(list []api.Pin) {
		for _, capacity := range []int{math.MinInt, -1, 0, 1, 2, 3, 4, 5, api.MaxPins, api.MaxPins + 1, math.MaxInt} {
			checkLoad(t, list, valid, capacity)
		}
	})
}

// P23.1: Load of all pairs of hosts, and of each pin that is not valid, alone, before and
// behind a valid one.
func TestLoadPairs(t *testing.T) {
	valid := func(api.Pin) bool { return true }
	for _, a := range ordered {
		for _, b := range ordered {
			checkLoad(t, []api.Pin{sub(a, 1), at(b, 2)}, valid, 2)
			checkLoad(t, []api.Pin{at(a, 1), at(b, 1)}, valid, 1)
		}
	}
	var bad []api.Pin
	for _, host := range others {
		bad = append(bad, at(host, 1), sub(host, 1), at(host, -1))
	}
	for _, expiry := range noTimes {
		bad = append(bad, at("a", expiry), sub("com", expiry))
	}
	valid = func(p api.Pin) bool { return p == at("b", 1) }
	for _, p := range bad {
		for _, list := range [][]api.Pin{{p}, {p, at("b", 1)}, {at("b", 1), p}, {at("b", 1), at("b", 1), p}, {p, p}} {
			for _, capacity := range []int{0, 1, 2, 3} {
				checkLoad(t, list, valid, capacity)
			}
		}
	}
	if x, err := Load([]api.Pin{{}}, 1); x != nil || err != api.ErrInvalid {
		t.Errorf("Load of the zero pin returns the error %d", err)
	}
}

// many returns n pins in order.
func many(n int) []api.Pin {
	list := make([]api.Pin, n)
	for i := range list {
		list[i] = api.Pin{Host: fmt.Sprintf("h%06d.d%d", i, i*10/n), IncludeSub: i%2 == 0, Expiry: i * 7 % 1000}
	}
	return list
}

// P23.1: Load of as many pins as the capacity, of more and of fewer.
func TestLoadMany(t *testing.T) {
	valid := func(p api.Pin) bool { return p.Expiry >= 0 }
	for _, n := range []int{api.MaxPins - 1, api.MaxPins, api.MaxPins + 1, 1 << 16} {
		list := many(n)
		for _, capacity := range slices.Concat(ranges, noRanges, []int{n - 1, n, n + 1}) {
			checkLoad(t, list, valid, capacity)
			checkLoad(t, append(slices.Clone(list), at("x", -1)), valid, capacity)
		}
	}
	// An error at every place.
	list := many(api.MaxPins)
	for i := range list {
		wrong := slices.Clone(list)
		wrong[i].Expiry = -1
		checkLoad(t, wrong, valid, api.MaxPins)
		wrong[i] = list[0]
		checkLoad(t, wrong, valid, api.MaxPins)
	}
}

// P23.2: Put of each host before and behind each other one.
func TestPutPairs(t *testing.T) {
	for _, a := range ordered {
		for _, b := range ordered {
			x, d := filled(t, 2, at(a, 3), sub(b, 4))
			checkTable(t, x, d)
			checkPut(t, x, d, sub(a, 5), true)
			checkTable(t, x, d)
		}
	}
	// All in the order of the names, in the opposite one, and from the middle on.
	backward := slices.Clone(ordered)
	slices.Reverse(backward)
	half := len(ordered) / 2
	for _, hosts := range [][]string{ordered, backward, slices.Concat(ordered[half:], ordered[:half])} {
		x, d := empty(t, len(hosts))
		for i, host := range hosts {
			checkPut(t, x, d, at(host, i), true)
			checkTable(t, x, d)
		}
		if got := x.Pins(); !slices.EqualFunc(got, ordered, func(p api.Pin, host string) bool { return p.Host == host }) {
			t.Errorf("the order is %v", got)
		}
	}
}

// P23.2: a pin that is not valid is refused, also where the table is full, and changes nothing.
func TestPutInvalid(t *testing.T) {
	x, d := filled(t, 2, at("a", 5))
	for range 2 {
		for _, host := range others {
			for _, p := range []api.Pin{at(host, 5), sub(host, 0), at(host, -1)} {
				checkPut(t, x, d, p, false)
			}
		}
		for _, host := range []string{"a", "b", "c"} {
			for _, expiry := range noTimes {
				checkPut(t, x, d, at(host, expiry), false)
				checkPut(t, x, d, sub(host, expiry), false)
			}
		}
		checkPut(t, x, d, api.Pin{}, false)
		checkTable(t, x, d)
		checkPut(t, x, d, at("b", 6), true) // now the table is full
	}
}

// P23.2: a full table accepts pins of its own hosts only, until there is space.
func TestPutFull(t *testing.T) {
	for n := 1; n < len(ordered); n++ {
		x, d := empty(t, n)
		for _, host := range ordered {
			checkPut(t, x, d, at(host, 5), true)
		}
		checkTable(t, x, d)
		for _, host := range ordered {
			checkPut(t, x, d, sub(host, 6), true)
		}
		checkTable(t, x, d)
		checkRemove(t, x, d, ordered[n])
		checkPut(t, x, d, at(ordered[n], 7), true)
		checkTable(t, x, d)
		checkRemove(t, x, d, ordered[n/2])
		checkPut(t, x, d, at(ordered[n], 8), true)
		checkPut(t, x, d, at(ordered[n/2], 9), true)
		checkTable(t, x, d)
		if len(d.pins) != n {
			t.Fatalf("%d pins, not %d", len(d.pins), n)
		}
	}
}

// P23.2: each capacity is the number of pins that fit.
func TestPutMany(t *testing.T) {
	list := many(api.MaxPins + 1)
	shuffled := slices.Clone(list)
	rand.New(rand.NewSource(23)).Shuffle(len(list), func(i, k int) { shuffled[i], shuffled[k] = shuffled[k], shuffled[i] })
	for _, pins := range [][]api.Pin{list, shuffled} {
		for _, capacity := range ranges {
			x, d := empty(t, capacity)
			for _, p := range pins {
				checkPut(t, x, d, p, true)
			}
			checkTable(t, x, d)
			checkLoaded(t, x, d)
			for _, p := range pins {
				if got, ok := x.Get(p.Host); ok != (d.pins[p.Host] == p) || ok && got != p {
					t.Errorf("Get(%q) is %v and %v", p.Host, got, ok)
				}
			}
		}
	}
}

// P23.2: Remove of each pin, of others, and of all one after the other.
func TestRemove(t *testing.T) {
	var pins []api.Pin
	for i, host := range ordered {
		pins = append(pins, at(host, i))
	}
	for _, host := range slices.Concat(ordered, others) {
		x, d := filled(t, len(pins)+1, pins...)
		checkRemove(t, x, d, host)
		checkTable(t, x, d)
		checkRemove(t, x, d, host)
		checkTable(t, x, d)
		for _, next := range slices.Concat(ordered, others) {
			checkRemove(t, x, d, next)
		}
		checkTable(t, x, d)
		checkPut(t, x, d, at("com", 1), true)
		checkTable(t, x, d)
	}
}

// P23.2: hosts that are near to those of the table, at each place of it, have no pins.
func TestGetOfOtherHosts(t *testing.T) {
	x, d := filled(t, 5, at("a.com", 1), at("b.com", 2), at("x.b.com", 3), at("d.e", 4))
	for host := range d.pins {
		for i := range len(host) + 1 {
			for b := range 256 {
				near := []string{host[:i] + string([]byte{byte(b)}) + host[i:], host[i:], host[:i]}
				if i < len(host) {
					near = append(near, host[:i]+string([]byte{byte(b)})+host[i+1:])
				}
				for _, other := range near {
					p, found := d.pins[other]
					if got, ok := x.Get(other); got != p || ok != found {
						t.Fatalf("Get(%q) is %v and %v", other, got, ok)
					}
					if !found {
						checkRemove(t, x, d, other)
					}
				}
			}
		}
	}
	long := strings.Repeat("a.", 1<<16) + "com"
	if p, ok := x.Get(long); p != (api.Pin{}) || ok || x.Remove(long) {
		t.Errorf("a long host has the pin %v", p)
	}
	checkTable(t, x, d)
}

// P23.2, P23.3: Expire and Live, for all expiries of up to four pins around a few moments.
func TestExpire(t *testing.T) {
	expiries := []int{0, 1, 2, 5, api.MaxTime}
	hosts := []string{"com", "b.com", "a.com", "b"}
	for i := range len(expiries) * len(expiries) * len(expiries) * len(expiries) {
		for _, now := range []int{math.MinInt, -1, 0, 1, 2, 4, 5, 6, api.MaxTime - 1, api.MaxTime, math.MaxInt} {
			x, d := empty(t, 4)
			for k, rest := 0, i; k < len(hosts); k, rest = k+1, rest/len(expiries) {
				checkPut(t, x, d, at(hosts[k], expiries[rest%len(expiries)]), true)
			}
			if got := slices.Collect(x.Live(now)); !slices.Equal(got, d.list(now)) {
				t.Errorf("Live(%d) yields %v, want %v", now, got, d.list(now))
			}
			checkExpire(t, x, d, now)
			if got := x.Pins(); !slices.Equal(got, d.list(math.MinInt)) || x.Len() != len(d.pins) {
				t.Errorf("after Expire(%d) the pins are %v, want %v", now, got, d.list(math.MinInt))
			}
			checkExpire(t, x, d, now)
		}
	}
}

// P23.2: Expire, moment after moment, of a table that is full.
func TestExpireMany(t *testing.T) {
	x, d := filled(t, api.MaxPins, many(api.MaxPins)...)
	for now := -1; now <= 1000; now += 7 {
		checkExpire(t, x, d, now)
		checkPut(t, x, d, at("x.com", now+3), true)
		if got := x.Pins(); !slices.Equal(got, d.list(math.MinInt)) {
			t.Fatalf("after Expire(%d) there are %d pins, want %d", now, len(got), len(d.pins))
		}
	}
	if x.Len() != 1 {
		t.Errorf("%d pins are left", x.Len())
	}
}

// P23.2, P23.3: all sequences of four calls.
func TestSequences(t *testing.T) {
	type call func(x *Table, d definition)
	var calls []call
	for _, p := range []api.Pin{at("b.com", 1), sub("b.com", 3), at("com", 2), at("a.com", 2), sub("c", 0)} {
		calls = append(calls, func(x *Table, d definition) { checkPut(t, x, d, p, true) })
	}
	calls = append(calls, func(x *Table, d definition) { checkPut(t, x, d, at("b.com", -1), false) })
	for _, host := range []string{"b.com", "com", "c"} {
		calls = append(calls, func(x *Table, d definition) { checkRemove(t, x, d, host) })
	}
	for _, now := range []int{0, 1, 2} {
		calls = append(calls, func(x *Table, d definition) { checkExpire(t, x, d, now) })
	}
	n := len(calls)
	for i := range n * n * n * n {
		for capacity := 1; capacity <= 3; capacity++ {
			x, d := empty(t, capacity)
			for k, rest := 0, i; k < 4; k, rest = k+1, rest/n {
				calls[rest%n](x, d)
			}
			if got := x.Pins(); !slices.Equal(got, d.list(math.MinInt)) || x.Len() != len(d.pins) || x.Capacity() != capacity {
				t.Fatalf("sequence %d: the pins are %v, want %v", i, got, d.list(math.MinInt))
			}
		}
	}
}

// P23.1, P23.2, P23.3: random calls.
func TestRandom(t *testing.T) {
	random := rand.New(rand.NewSource(23))
	for run := range 300 {
		x, d := empty(t, 1+random.Intn(len(ordered)+2))
		for range 60 {
			host := ordered[random.Intn(len(ordered))]
			switch random.Intn(8) {
			case 0:
				checkRemove(t, x, d, host)
			case 1:
				checkExpire(t, x, d, random.Intn(7)-1)
			case 2:
				checkPut(t, x, d, at(others[random.Intn(len(others))], random.Intn(6)), false)
			default:
				checkPut(t, x, d, api.Pin{Host: host, IncludeSub: random.Intn(2) == 1, Expiry: random.Intn(6)}, true)
			}
			if random.Intn(10) == 0 {
				checkTable(t, x, d)
			}
		}
		checkTable(t, x, d)
		checkLoaded(t, x, d)
		if t.Failed() {
			t.Fatalf("run %d", run)
		}
	}
}

// P23.3: a range can be left at each place, can begin again, and can be within another one.
func TestRanges(t *testing.T) {
	x, d := filled(t, 9, at("com", 5), at("a.com", 1), at("b.com", 5), at("a", 1), at("net", 5))
	all, live := x.All(), x.Live(1)
	wantAll, wantLive := d.list(math.MinInt), d.list(1)
	for n := 1; n <= len(wantAll); n++ {
		var got []api.Pin
		for i, p := range all {
			if got = append(got, p); i == n-1 {
				break
			}
		}
		if !slices.Equal(got, wantAll[:n]) {
			t.Errorf("All yields %v in a loop that is left after %d", got, n)
		}
	}
	for n := 1; n <= len(wantLive); n++ {
		var got []api.Pin
		for p := range live {
			if got = append(got, p); len(got) == n {
				break
			}
		}
		if !slices.Equal(got, wantLive[:n]) {
			t.Errorf("Live yields %v in a loop that is left after %d", got, n)
		}
	}
	for _, outer := range all {
		if got := slices.Collect(live); !slices.Equal(got, wantLive) {
			t.Errorf("Live yields %v at %v", got, outer)
		}
		for p := range live {
			if got := collected(t, x); !slices.Equal(got, wantAll) {
				t.Errorf("All yields %v at %v", got, p)
			}
		}
	}
	checkTable(t, x, d)
}

// P23.3: a range yields the pins of the moment at which it begins.
func TestRangesAfterChanges(t *testing.T) {
	x, d := empty(t, 4)
	all, live := x.All(), x.Live(2)
	check := func() {
		t.Helper()
		var got []api.Pin
		for _, p := range all {
			got = append(got, p)
		}
		if !slices.Equal(got, d.list(math.MinInt)) {
			t.Errorf("All yields %v, want %v", got, d.list(math.MinInt))
		}
		if got := slices.Collect(live); !slices.Equal(got, d.list(2)) {
			t.Errorf("Live yields %v, want %v", got, d.list(2))
		}
	}
	check()
	for _, p := range []api.Pin{at("b", 2), at("a", 3), sub("b", 9), at("c", 1), at("x.a", 4), at("d", 4)} {
		checkPut(t, x, d, p, true)
		check()
	}
	checkExpire(t, x, d, 3)
	check()
	checkRemove(t, x, d, "b")
	check()
	checkExpire(t, x, d, 9)
	check()
}

// P23.4: a nil table, of which no call changes anything.
func TestNil(t *testing.T) {
	var x *Table
	d := definition{map[string]api.Pin{}, 0}
	for range 2 {
		checkTable(t, x, d)
		for _, host := range ordered {
			if err := x.Put(at(host, 5)); err != api.ErrFull {
				t.Errorf("Put of %.100q returns the error %d", host, err)
			}
			if err := x.Put(at(host, -1)); err != api.ErrInvalid {
				t.Errorf("Put of %.100q with the expiry -1 returns the error %d", host, err)
			}
		}
		for _, host := range others {
			if err := x.Put(at(host, 5)); err != api.ErrInvalid {
				t.Errorf("Put of %.100q returns the error %d", host, err)
			}
		}
		for _, host := range slices.Concat(ordered, others) {
			checkRemove(t, x, d, host)
		}
		for _, now := range moments {
			checkExpire(t, x, d, now)
		}
	}
}

// overwrite changes the bytes of s, which must not be a constant.
func overwrite(s string) {
	b := unsafe.Slice(unsafe.StringData(s), len(s))
	for i := range b {
		b[i] = '#'
	}
}

// spoil changes all pins of a list, with its spare capacity.
func spoil(list []api.Pin) {
	for i := range list[:cap(list)] {
		overwrite(list[:cap(list)][i].Host)
		list[:cap(list)][i] = at("spoiled", -1)
	}
}

// own returns copies of the pins whose hosts can be overwritten, in a slice with spare
// capacity.
func own(pins []api.Pin) []api.Pin {
	list := make([]api.Pin, 0, len(pins)+3)
	for _, p := range pins {
		p.Host = strings.Clone(p.Host)
		list = append(list, p)
	}
	copy(list[len(list):cap(list)], []api.Pin{at("spare", 1), at("spare", 2), at("spare", 3)})
	return list
}

// P23.1, P23.2: arguments are neither changed nor kept.
func TestArguments(t *testing.T) {
	x, d := filled(t, 9, at("com", 1), at("a.com", 2), at("b.com", 3))
	pins := own(x.Pins())
	before := slices.Clone(pins[:cap(pins)])
	y, err := Load(pins, 4)
	if err != api.OK {
		t.Fatal(err)
	}
	y.Put(at("a", 1))
	y.Remove("com")
	y.Expire(2)
	y.Put(sub("b.com", 9))
	if !slices.Equal(pins[:cap(pins)], before) {
		t.Errorf("Load changed its argument to %v", pins[:cap(pins)])
	}

	y, _ = Load(pins, 9)
	for i := range pins {
		overwrite(pins[i].Host)
	}
	clear(pins[:cap(pins)])
	checkTable(t, y, d)

	for _, expiry := range []int{4, 5} { // the first Put inserts and the second one replaces
		host := strings.Clone("x.a.com")
		if err := x.Put(at(host, expiry)); err != api.OK || host != "x.a.com" {
			t.Errorf("Put returns the error %d, and its argument is now %q", err, host)
		}
		overwrite(host)
		d.put(at("x.a.com", expiry), true)
		checkTable(t, x, d)
	}
	host := strings.Clone("x.a.com")
	x.Get(host)
	overwrite(host)
	checkTable(t, x, d)
}

// P23.2, P23.3: results share no memory with the table or with other results.
func TestResults(t *testing.T) {
	x, d := filled(t, 9, at("com", 1), at("a.com", 2), at("b.com", 3))
	first, second := x.Pins(), x.Pins()
	spoil(first)
	if want := d.list(math.MinInt); !slices.Equal(second, want) {
		t.Errorf("the second result is now %v", second)
	}
	checkTable(t, x, d)
	spoil(second)
	for host := range d.pins {
		p, _ := x.Get(host)
		again, _ := x.Get(host)
		overwrite(p.Host)
		if again != d.pins[host] {
			t.Errorf("the second result of Get is now %v", again)
		}
	}
	checkTable(t, x, d)
	for _, p := range x.All() {
		overwrite(p.Host)
	}
	for p := range x.Live(0) {
		overwrite(p.Host)
	}
	checkTable(t, x, d)

	// Later calls do not change results.
	pins := x.Pins()
	p, _ := x.Get("com")
	want := slices.Clone(pins)
	x.Put(sub("com", 9))
	x.Put(at("a", 9))
	x.Remove("b.com")
	x.Expire(5)
	if !slices.Equal(pins, want) || p != at("com", 1) {
		t.Errorf("the results are now %v and %v", pins, p)
	}
}

// The example of the chapter.
func TestExample(t *testing.T) {
	x, d := filled(t, 1, at("a.com", 5), sub("a.com", 7))
	if err := x.Put(at("b.com", 9)); err != api.ErrFull {
		t.Errorf("Put of b.com returns the error %d", err)
	}
	checkTable(t, x, d)
	if n := x.Expire(7); n != 1 {
		t.Errorf("Expire(7) is %d", n)
	}
	if err := x.Put(at("b.com", 9)); err != api.OK {
		t.Errorf("Put of b.com returns the error %d", err)
	}
	if got := x.Pins(); !slices.Equal(got, []api.Pin{at("b.com", 9)}) {
		t.Errorf("the pins are %v", got)
	}
}
