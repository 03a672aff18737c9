package seconds

import (
	"math"
	"math/big"
	"strings"
	"testing"

	"hstsstore/api"
)

// numbers returns numbers around all borders of the limits and of the integer types.
func numbers() []int {
	all := []int{-12345, 7, 10, 99, 100, 31536000, math.MinInt, math.MinInt + 1, math.MaxInt - 1, math.MaxInt}
	for i := range 63 {
		power := 1 << i
		all = append(all, power-1, power, power+1, -power)
	}
	for _, limit := range []int{0, api.MaxAge, api.MaxTime, api.MaxTime - api.MaxAge} {
		all = append(all, limit-2, limit-1, limit, limit+1, limit+2)
	}
	return all
}

// nearest returns the number of the range 0 to greatest that is nearest to n.
func nearest(n *big.Int, greatest int64) *big.Int {
	switch {
	case n.Sign() < 0:
		return big.NewInt(0)
	case n.Cmp(big.NewInt(greatest)) > 0:
		return big.NewInt(greatest)
	}
	return n
}

// period computes the result of Parse from the promise, with numbers of any length.
func period(s string) (int, bool) {
	if s == "" || strings.Trim(s, "0123456789") != "" {
		return 0, false
	}
	n, ok := new(big.Int).SetString(s, 10)
	if !ok {
		return 0, false
	}
	return int(nearest(n, api.MaxAge).Int64()), true
}

// expiry computes the result of Expiry from the promise, with numbers of any length.
func expiry(now, age int) int {
	sum := new(big.Int).Add(nearest(big.NewInt(int64(now)), api.MaxTime), nearest(big.NewInt(int64(age)), api.MaxAge))
	return int(nearest(sum, api.MaxTime).Int64())
}

// checkParse compares Parse with the promise.
func checkParse(t *testing.T, s string) {
	t.Helper()
	got, ok := Parse(s)
	if want, wantOK := period(s); got != want || ok != wantOK {
		t.Errorf("Parse(%q) = %d, %v, want %d, %v", s, got, ok, want, wantOK)
	}
}

// P4.1
func TestParse(t *testing.T) {
	for _, c := range []struct {
		s    string
		want int
	}{
		{"0", 0},
		{"9", 9},
		{"10", 10},
		{"1234567890", 1234567890},
		{"31536000", 31536000},
		{"2147483646", 2147483646},
		{"2147483647", 2147483647},
	} {
		if got, ok := Parse(c.s); got != c.want || !ok {
			t.Errorf("Parse(%q) = %d, %v, want %d", c.s, got, ok, c.want)
		}
	}
}

// P4.1
func TestParseLeadingZeros(t *testing.T) {
	for _, c := range []struct {
		digits string
		want   int
	}{
		{"0", 0},
		{"1", 1},
		{"31536000", 31536000},
		{"2147483647", api.MaxAge},
		{"2147483648", api.MaxAge},
	} {
		for _, zeros := range []int{1, 2, 10, 19, 20, 100, 100000} {
			if got, ok := Parse(strings.Repeat("0", zeros) + c.digits); got != c.want || !ok {
				t.Errorf("Parse of %q behind %d zeros is %d, %v", c.digits, zeros, got, ok)
			}
		}
	}
	if got, ok := Parse(strings.Repeat("0", 1000)); got != 0 || !ok {
		t.Errorf("Parse of 1000 zeros is %d, %v", got, ok)
	}
}

// P4.1: a great number counts as MaxAge, whatever its lowest 32 or 64 bits are.
func TestParseGreatNumbers(t *testing.T) {
	for _, s := range []string{
		"2147483648",
		"2147483650",
		"4294967295",
		"4294967296",
		"4294967301",
		"10000000000",
		"99999999999",
		"1099511627776",
		"9223372036854775807",
		"9223372036854775808",
		"9223372036854775813",
		"18446744073709551615",
		"18446744073709551616",
		"18446744073709551621",
		"340282366920938463463374607431768211456",
		strings.Repeat("9", 500),
		"1" + strings.Repeat("0", 100000),
	} {
		if got, ok := Parse(s); got != api.MaxAge || !ok {
			t.Errorf("Parse of %d digits, %.40s, is %d, %v", len(s), s, got, ok)
		}
	}
	for i := range 130 {
		power := new(big.Int).Lsh(big.NewInt(1), uint(i))
		for d := int64(-2); d <= 6; d++ {
			if n := new(big.Int).Add(power, big.NewInt(d)); n.Sign() >= 0 {
				checkParse(t, n.String())
			}
		}
	}
}

// P4.1
func TestParseRejects(t *testing.T) {
	for _, s := range []string{
		"",
		" ",
		"-1",
		"-0",
		"+1",
		" 1",
		"1 ",
		"1\n",
		"1\x00",
		"1 2",
		"1.5",
		"1,000",
		"1_000",
		"1e3",
		"0x10",
		"0b1",
		"10s",
		"\"1\"",
		"a",
		"/",
		":",
		"\u0661", // a digit of Unicode
		"\uff11",
		"\xb2", // superscript two in Latin-1
		"2147483648x",
		strings.Repeat("9", 500) + "x",
		"x" + strings.Repeat("9", 500),
		strings.Repeat("9", 250) + "-" + strings.Repeat("9", 250),
	} {
		if got, ok := Parse(s); got != 0 || ok {
			t.Errorf("Parse(%q) = %d, %v, want false", s, got, ok)
		}
	}
}

// P4.1
func TestParseEveryByte(t *testing.T) {
	for i := range 256 {
		b := string([]byte{byte(i)})
		for _, s := range []string{b, b + "12", "1" + b + "2", "12" + b, "99999999999" + b} {
			checkParse(t, s)
		}
	}
}

// P4.1
func TestParseOfShortTexts(t *testing.T) {
	const alphabet = "0129/:- \xb1"
	var extend func(string)
	extend = func(s string) {
		checkParse(t, s)
		if len(s) == 5 {
			return
		}
		for i := range len(alphabet) {
			extend(s + alphabet[i:i+1])
		}
	}
	extend("")
}

// P4.2
func TestFormat(t *testing.T) {
	for _, c := range []struct {
		n    int
		want string
	}{
		{0, "0"},
		{7, "7"},
		{10, "10"},
		{100, "100"},
		{1234567890, "1234567890"},
		{31536000, "31536000"},
		{api.MaxAge - 1, "2147483646"},
		{api.MaxAge, "2147483647"},
		{api.MaxAge + 1, "2147483647"},
		{1 << 32, "2147483647"},
		{1<<32 + 5, "2147483647"},
		{api.MaxTime, "2147483647"},
		{math.MaxInt, "2147483647"},
		{-1, "0"},
		{-10, "0"},
		{-api.MaxAge, "0"},
		{-1<<32 + 5, "0"},
		{math.MinInt, "0"},
	} {
		if got := Format(c.n); got != c.want {
			t.Errorf("Format(%d) = %q, want %q", c.n, got, c.want)
		}
	}
}

// P4.2
func TestFormatOfManyNumbers(t *testing.T) {
	for _, n := range numbers() {
		if got, want := Format(n), nearest(big.NewInt(int64(n)), api.MaxAge).String(); got != want {
			t.Errorf("Format(%d) = %q, want %q", n, got, want)
		}
	}
}

// P4.1 and P4.2: Parse returns what was formatted.
func TestParseOfFormat(t *testing.T) {
	for _, n := range numbers() {
		want := int(nearest(big.NewInt(int64(n)), api.MaxAge).Int64())
		if got, ok := Parse(Format(n)); got != want || !ok {
			t.Errorf("Parse(Format(%d)) = %d, %v, want %d", n, got, ok, want)
		}
	}
}

// P4.3
func TestExpiry(t *testing.T) {
	for _, c := range []struct{ now, age, want int }{
		{0, 0, 0},
		{5, 10, 15},
		{0, 31536000, 31536000},
		{1000000000, 0, 1000000000},
		{-3, 10, 10},
		{10, -3, 10},
		{-3, -3, 0},
		{0, api.MaxAge, api.MaxAge},
		{0, api.MaxAge + 1, api.MaxAge},
		{3, api.MaxAge + 9, api.MaxAge + 3},
		{0, api.MaxTime, api.MaxAge},
		{0, math.MaxInt, api.MaxAge},
		{api.MaxTime, 0, api.MaxTime},
		{api.MaxTime, 5, api.MaxTime},
		{api.MaxTime, -5, api.MaxTime},
		{api.MaxTime + 1, 0, api.MaxTime},
		{api.MaxTime + 5, -5, api.MaxTime},
		{api.MaxTime - 1, 0, api.MaxTime - 1},
		{api.MaxTime - 6, 5, api.MaxTime - 1},
		{api.MaxTime - 5, 5, api.MaxTime},
		{api.MaxTime - 4, 5, api.MaxTime},
		{api.MaxTime - api.MaxAge - 1, api.MaxAge, api.MaxTime - 1},
		{api.MaxTime - api.MaxAge, api.MaxAge, api.MaxTime},
		{api.MaxTime - api.MaxAge + 1, api.MaxAge, api.MaxTime},
		{math.MaxInt, math.MaxInt, api.MaxTime},
		{math.MaxInt, 1, api.MaxTime},
		{1, math.MaxInt, api.MaxAge + 1},
		{math.MinInt, math.MinInt, 0},
		{math.MinInt, math.MaxInt, api.MaxAge},
		{math.MaxInt, math.MinInt, api.MaxTime},
		{math.MinInt, -1, 0},
	} {
		if got := Expiry(c.now, c.age); got != c.want {
			t.Errorf("Expiry(%d, %d) = %d, want %d", c.now, c.age, got, c.want)
		}
	}
}

// P4.3
func TestExpiryOfManyNumbers(t *testing.T) {
	for _, now := range numbers() {
		for _, age := range numbers() {
			if got, want := Expiry(now, age), expiry(now, age); got != want {
				t.Errorf("Expiry(%d, %d) = %d, want %d", now, age, got, want)
			}
		}
	}
}

// P4.3: Expiry is monotone in both arguments.
func TestExpiryIsMonotone(t *testing.T) {
	for _, now := range numbers() {
		for _, age := range numbers() {
			at := Expiry(now, age)
			if now < math.MaxInt && Expiry(now+1, age) < at {
				t.Errorf("Expiry(%d, %d) is greater than one second later", now, age)
			}
			if age < math.MaxInt && Expiry(now, age+1) < at {
				t.Errorf("Expiry(%d, %d) is greater than with one second more", now, age)
			}
		}
	}
}

// P4.3
func TestExpired(t *testing.T) {
	for _, c := range []struct {
		expiry, now int
		want        bool
	}{
		{10, 9, false},
		{10, 10, true},
		{10, 11, true},
		{0, 0, true},
		{1, 0, false},
		{0, -1, false},
		{-1, 0, true},
		{-1, -1, true},
		{-1, -2, false},
		{api.MaxTime, api.MaxTime - 1, false},
		{api.MaxTime, api.MaxTime, true},
		// Neither argument is limited.
		{api.MaxTime + 1, api.MaxTime, false},
		{math.MaxInt, api.MaxTime, false},
		{math.MaxInt, math.MaxInt, true},
		{math.MaxInt, math.MaxInt - 1, false},
		{math.MinInt, math.MaxInt, true},
		{math.MaxInt, math.MinInt, false},
		{math.MinInt, math.MinInt, true},
		{math.MinInt + 1, math.MinInt, false},
	} {
		if got := Expired(c.expiry, c.now); got != c.want {
			t.Errorf("Expired(%d, %d) = %v", c.expiry, c.now, got)
		}
	}
}

// The examples of the chapter.
func TestExamples(t *testing.T) {
	for s, want := range map[string]int{"031536000": 31536000, "99999999999": 2147483647} {
		if got, ok := Parse(s); got != want || !ok {
			t.Errorf("example 1: Parse(%q) = %d, %v", s, got, ok)
		}
	}
	for _, s := range []string{"-1", "1 "} {
		if got, ok := Parse(s); got != 0 || ok {
			t.Errorf("example 1: Parse(%q) = %d, %v", s, got, ok)
		}
	}
	if got := Expiry(api.MaxTime, 5); got != api.MaxTime {
		t.Errorf("example 2: %d", got)
	}
	if !Expired(10, 10) || Expired(10, 9) {
		t.Error("example 3: a pin with the expiry 10 does not expire at 10")
	}
}
