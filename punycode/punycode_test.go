package punycode

import (
	"math"
	"math/big"
	"math/rand"
	"slices"
	"strings"
	"testing"

	"hstsstore/api"
)

const digitBytes = "abcdefghijklmnopqrstuvwxyz0123456789"

// variableLimit is what the variables i and w may not exceed.
const variableLimit = 1 << 40

// thresholdOf returns the threshold of the digit with the number j by the definition.
func thresholdOf(j, bias int) int {
	switch k := 36 * (j + 1); {
	case k <= bias+1:
		return 1
	case k >= bias+26:
		return 26
	default:
		return k - bias
	}
}

// biasAfter returns the bias behind the number delta by the definition.
func biasAfter(delta, count int, first bool) int {
	scale := 2
	if first {
		scale = 700
	}
	delta = delta/scale + delta/scale/count
	divisions := 0
	for delta > 455 {
		delta /= 35
		divisions++
	}
	return 36*divisions + 36*delta/(delta+38)
}

// numberText returns the digits of v from the digit with the number j on.
func numberText(v, j, bias int) string {
	t := thresholdOf(j, bias)
	if v < t {
		return digitBytes[v : v+1]
	}
	d := t + (v-t)%(36-t)
	return digitBytes[d:d+1] + numberText((v-t)/(36-t), j+1, bias)
}

// encodingOf returns the encoding of points, which are code points. It computes each number
// from the places at which a decoder has to insert the code points, in ascending order.
func encodingOf(points []int) string {
	var text strings.Builder
	var order []int
	for i, c := range points {
		if c < 128 {
			text.WriteByte(byte(c))
		} else {
			order = append(order, i)
		}
	}
	count := text.Len()
	if count > 0 {
		text.WriteByte('-')
	}
	slices.SortStableFunc(order, func(a, b int) int { return points[a] - points[b] })
	n, place, bias := 128, 0, 72
	for h, at := range order {
		c, next := points[at], 0
		for _, other := range points[:at] {
			if other <= c {
				next++
			}
		}
		delta := (c-n)*(count+1) + next - place
		text.WriteString(numberText(delta, 0, bias))
		count++
		bias = biasAfter(delta, count, h == 0)
		n, place = c, next+1
	}
	return text.String()
}

// isCodePoint tells by the chapter's definition whether c is a code point.
func isCodePoint(c *big.Int) bool {
	return c.Sign() >= 0 && c.Cmp(big.NewInt(0x10FFFF)) <= 0 &&
		(c.Cmp(big.NewInt(0xD800)) < 0 || c.Cmp(big.NewInt(0xDFFF)) > 0)
}

// decodingOf returns the result of Decode by the definition, with numbers of any length.
func decodingOf(s string) ([]int, api.Errno) {
	if len(s) > 1024 {
		return nil, api.ErrLimit
	}
	if strings.Trim(s, string(asciiBytes())) != "" {
		return nil, api.ErrSyntax
	}
	var points []int
	digits := s
	if end := strings.LastIndex(s, "-"); end > 0 {
		for _, c := range s[:end] {
			points = append(points, int(c))
		}
		digits = s[end+1:]
	}
	if len(points) > 256 {
		return nil, api.ErrLimit
	}
	limit := big.NewInt(variableLimit)
	n, i, w := big.NewInt(128), new(big.Int), big.NewInt(1)
	before, bias, j, first := new(big.Int), 72, 0, true
	for _, b := range strings.ToLower(digits) {
		d := strings.IndexRune(digitBytes, b)
		if d < 0 {
			return nil, api.ErrSyntax
		}
		i.Add(i, new(big.Int).Mul(big.NewInt(int64(d)), w))
		if i.Cmp(limit) > 0 {
			return nil, api.ErrOverflow
		}
		t := thresholdOf(j, bias)
		if j++; d >= t {
			w.Mul(w, big.NewInt(int64(36-t)))
			if w.Cmp(limit) > 0 {
				return nil, api.ErrOverflow
			}
			continue
		}
		count := big.NewInt(int64(len(points) + 1))
		bias = biasAfter(int(new(big.Int).Sub(i, before).Int64()), len(points)+1, first)
		steps, place := new(big.Int).QuoRem(i, count, new(big.Int))
		if n.Add(n, steps); !isCodePoint(n) {
			return nil, api.ErrRange
		}
		at := int(place.Int64())
		points = append(append(slices.Clone(points[:at]), int(n.Int64())), points[at:]...)
		if len(points) > 256 {
			return nil, api.ErrLimit
		}
		i.Add(place, big.NewInt(1))
		before.Set(i)
		w.SetInt64(1)
		j, first = 0, false
	}
	if j > 0 {
		return nil, api.ErrSyntax
	}
	return points, api.OK
}

// asciiBytes returns all ASCII bytes.
func asciiBytes() []byte {
	var all []byte
	for b := range byte(128) {
		all = append(all, b)
	}
	return all
}

// check compares Decode with its promise for s, and encodes what it returns.
func check(t *testing.T, s string) {
	t.Helper()
	points, err := Decode(s)
	want, wantErr := decodingOf(s)
	if !slices.Equal(points, want) || err != wantErr {
		t.Errorf("Decode(%.80q) = %.20x, %d, want %.20x, %d", s, points, err, want, wantErr)
		return
	}
	if err != api.OK {
		return
	}
	end := strings.LastIndex(s, "-") + 1
	if again, err := Encode(points); again != s[:end]+strings.ToLower(s[end:]) || err != api.OK {
		t.Errorf("Decode(%.80q) = %.20x, whose encoding is %.80q, %d", s, points, again, err)
	}
}

// checkPoints compares Encode with its promise for code points, and decodes what it returns.
func checkPoints(t *testing.T, points []int) {
	t.Helper()
	s, err := Encode(points)
	if want := encodingOf(points); s != want || err != api.OK {
		t.Errorf("Encode(%.20x) = %.80q, %d, want %.80q", points, s, err, want)
		return
	}
	if len(s) > api.MaxHost {
		checkRejected(t, s, api.ErrLimit)
		return
	}
	if again, err := Decode(s); !slices.Equal(again, points) || err != api.OK {
		t.Errorf("Decode(%.80q) = %.20x, %d, want %.20x", s, again, err, points)
	}
}

// checkPair compares Encode and Decode with a sequence of code points and its encoding.
func checkPair(t *testing.T, points []int, text string) {
	t.Helper()
	if got, err := Encode(points); got != text || err != api.OK {
		t.Errorf("Encode(%x) = %q, %d, want %q", points, got, err, text)
	}
	if got, err := Decode(text); !slices.Equal(got, points) || err != api.OK {
		t.Errorf("Decode(%q) = %x, %d, want %x", text, got, err, points)
	}
}

// checkNotEncoded compares Encode with an error.
func checkNotEncoded(t *testing.T, points []int, want api.Errno) {
	t.Helper()
	if got, err := Encode(points); got != "" || err != want {
		t.Errorf("Encode(%.20x) = %.80q, %d, want the error %d", points, got, err, want)
	}
}

// checkRejected compares Decode with an error.
func checkRejected(t *testing.T, s string, want api.Errno) {
	t.Helper()
	if got, err := Decode(s); len(got) != 0 || err != want {
		t.Errorf("Decode(%.80q) = %.20x, %d, want the error %d", s, got, err, want)
	}
}

// pointsOf returns the code points of s.
func pointsOf(s string) []int {
	var points []int
	for _, c := range s {
		points = append(points, int(c))
	}
	return points
}

// sequences calls f with every sequence of up to length elements of all.
func sequences(all []int, length int, f func([]int)) {
	var extend func([]int)
	extend = func(points []int) {
		f(points)
		if len(points) == length {
			return
		}
		for _, c := range all {
			extend(append(points, c))
		}
	}
	extend(make([]int, 0, length))
}

// texts calls f with every string of up to length bytes from the alphabet.
func texts(alphabet string, length int, f func(string)) {
	sequences(pointsOf(alphabet), length, func(points []int) {
		b := make([]byte, len(points))
		for i, c := range points {
			b[i] = byte(c)
		}
		f(string(b))
	})
}

// P12.1 and P12.2: the sample strings of RFC 3492, section 7.1.
func TestSamples(t *testing.T) {
	for _, c := range []struct{ text, encoding string }{
		{"ليهمابتكلموشعربي؟", "egbpdaj6bu4bxfgehfvwxn"},
		{"他们为什么不说中文", "ihqwcrb4cv8a8dqg056pqjye"},
		{"他們爲什麽不說中文", "ihqwctvzc91f659drss3x8bo0yb"},
		{"Pro\u010dprost\u011bnemluv\u00ed\u010desky", "Proprostnemluvesky-uyb24dma41a"},
		{"למההםפשוטלאמדבריםעברית", "4dbcagdahymbxekheh6e0a7fei0b"},
		{"यहलोगहिन्दीक्योंनहींबोलसकतेहैं", "i1baa7eci9glrd9b2ae1bj0hfcgg6iyaf8o0a1dig0cd"},
		{"なぜみんな日本語を話してくれないのか", "n8jok5ay5dzabd5bym9f0cm5685rrjetr6pdxa"},
		{"세계의모든사람들이한국어를이해한다면얼마나좋을까", "989aomsvi5e83db1d2a355cv1e0vak1dwrv93d5xbh15a0dt30a5jpsd879ccm6fea98c"},
		{"почемужеонинеговорятпорусски", "b1abfaaepdrnnbgefbadotcwatmq2g4l"},
		{"Porqu\u00e9nopuedensimplementehablarenEspa\u00f1ol", "PorqunopuedensimplementehablarenEspaol-fmd56a"},
		{"T\u1ea1isaoh\u1ecdkh\u00f4ngth\u1ec3ch\u1ec9n\u00f3iti\u1ebfngVi\u1ec7t", "TisaohkhngthchnitingVit-kjcr8268qyxafd2f1b9g"},
		{"3年B組金八先生", "3B-ww4c5e180e575a65lsy2b"},
		{"安室奈美恵-with-SUPER-MONKEYS", "-with-SUPER-MONKEYS-pc58ag80a8qai00g7n9n"},
		{"Hello-Another-Way-それぞれの場所", "Hello-Another-Way--fc4qua05auwb3674vfr0b"},
		{"ひとつ屋根の下2", "2-u9tlzr9756bt3uc0v"},
		{"MajiでKoiする5秒前", "MajiKoi5-783gue6qz075azm5e"},
		{"パフィーdeルンバ", "de-jg4avhby1noc0d"},
		{"そのスピードで", "d9juau41awczczp"},
		{"-> $1.00 <-", "-> $1.00 <--"},
	} {
		checkPair(t, pointsOf(c.text), c.encoding)
		end := strings.LastIndex(c.encoding, "-") + 1
		upper := c.encoding[:end] + strings.ToUpper(c.encoding[end:])
		if got, err := Decode(upper); !slices.Equal(got, pointsOf(c.text)) || err != api.OK {
			t.Errorf("Decode(%q) = %x, %d", upper, got, err)
		}
	}
}

// P12.1 and P12.2
func TestPairs(t *testing.T) {
	for _, c := range []struct {
		points []int
		text   string
	}{
		{nil, ""},
		{[]int{}, ""},
		{[]int{'a'}, "a-"},
		{[]int{'-'}, "--"},
		{[]int{'-', '-'}, "---"},
		{[]int{'a', '-', 'b'}, "a-b-"},
		{[]int{'a', '-'}, "a--"},
		{[]int{'-', 'a'}, "-a-"},
		{[]int{0}, "\x00-"},
		{[]int{127}, "\x7f-"},
		{[]int{'A', 'z', ' ', '9'}, "Az 9-"},
		{[]int{128}, "a"},
		{[]int{129}, "ba"},
		{[]int{128, 128}, "aa"},
		{[]int{128, 129}, "ac"},
		{[]int{129, 128}, "ab"},
		{[]int{127, 128}, "\x7f-ba"},
		{[]int{128, 127}, "\x7f-a"},
		{[]int{0xFC}, "tda"},
		{[]int{0xDF}, "zca"},
		{[]int{'-', 0xFC}, "--eha"},
		{[]int{0xFC, '-'}, "--dha"},
		{pointsOf("M\u00fcnchen"), "Mnchen-3ya"},
		{pointsOf("fa\u00df"), "fa-hia"},
		{[]int{0x2603}, "n3h"},
		{[]int{0xD7FF}, "hb9b"},
		{[]int{0xE000}, "0y0c"},
		{[]int{0x1F4A9}, "ls8h"},
		{[]int{0x10FFFF}, "dn32g"},
		{[]int{0x10FFFF, 0x10FFFF, 0x10FFFF}, "dn32gaa"},
		{[]int{0x80, 0x10FFFF, 0x80}, "aa260354a"},
	} {
		checkPair(t, c.points, c.text)
		checkPoints(t, c.points)
		check(t, c.text)
	}
}

// P12.1: elements that are no code points, alone and in each place.
func TestEncodeErrRange(t *testing.T) {
	for _, bad := range []int{-1, -2, -128, 0x110000, 0x110001, 0xD800, 0xD801, 0xDBFF, 0xDC00, 0xDFFE, 0xDFFF, 1 << 31, 1 << 32, 1<<32 + 'a', 1 << 40, math.MaxInt, math.MinInt, math.MinInt + 'a'} {
		checkNotEncoded(t, []int{bad}, api.ErrRange)
		for place := range 6 {
			checkNotEncoded(t, slices.Insert(pointsOf("a-\u00fcz\u00e4"), place, bad), api.ErrRange)
		}
		full := slices.Repeat([]int{'a'}, api.MaxPoints-1)
		checkNotEncoded(t, append(full, bad), api.ErrRange)
		checkNotEncoded(t, append(full, 'a', bad), api.ErrLimit)
		checkNotEncoded(t, slices.Repeat([]int{bad}, api.MaxPoints), api.ErrRange)
		checkNotEncoded(t, slices.Repeat([]int{bad}, api.MaxPoints+1), api.ErrLimit)
	}
}

// P12.1 and P12.2: sequences of every length around the limit, of the same code points, of
// ascending and of descending ones.
func TestLengths(t *testing.T) {
	const most = 256
	for n := range most + 4 {
		var sequences [][]int
		for _, c := range []int{0, 'a', '-', 127, 128, 0xFC, 0xFFFF, 0x10FFFF} {
			sequences = append(sequences, slices.Repeat([]int{c}, n))
		}
		for _, step := range []int{1, 2, 31, 4000} {
			var ascending []int
			for i := range n {
				c := 100 + i*step
				if 0xD800 <= c && c <= 0xDFFF {
					c = 0xD7FF
				}
				ascending = append(ascending, c)
			}
			descending := slices.Clone(ascending)
			slices.Reverse(descending)
			sequences = append(sequences, ascending, descending)
		}
		for _, points := range sequences {
			if n > most {
				checkNotEncoded(t, points, api.ErrLimit)
			} else {
				checkPoints(t, points)
			}
		}
	}
	checkNotEncoded(t, make([]int, 1<<20), api.ErrLimit)
}

// P12.1 and P12.2: every code point alone.
func TestEveryPoint(t *testing.T) {
	for c := range 0x110000 {
		if 0xD800 <= c && c <= 0xDFFF {
			checkNotEncoded(t, []int{c}, api.ErrRange)
			continue
		}
		want := string(rune(c)) + "-"
		if c >= 128 {
			want = numberText(c-128, 0, 72)
		}
		checkPair(t, []int{c}, want)
	}
}

// P12.1 and P12.2: all short sequences of code points of each kind.
func TestShortSequences(t *testing.T) {
	sequences([]int{'-', 'a', 128, 129}, 7, func(points []int) { checkPoints(t, points) })
	sequences([]int{0, '-', 'Z', 127, 128, 0xFC, 0xD7FF, 0xE000, 0x10FFFE, 0x10FFFF}, 4, func(points []int) { checkPoints(t, points) })
}

// P12.1 and P12.2: random sequences of code points of several ranges.
func TestRandomSequences(t *testing.T) {
	r := rand.New(rand.NewSource(1))
	for range 20000 {
		first, last := r.Intn(3)*r.Intn(0x8000), 1+r.Intn(0x200)
		points := make([]int, r.Intn(64))
		for i := range points {
			switch r.Intn(5) {
			case 0, 1:
				points[i] = r.Intn(128)
			case 2, 3:
				points[i] = first + r.Intn(last)
			default:
				points[i] = r.Intn(0x110000)
			}
			if 0xD800 <= points[i] && points[i] <= 0xDFFF {
				points[i] -= 0x800
			}
		}
		checkPoints(t, points)
	}
}

// P12.2: encodings of about as many bytes as Decode takes.
func TestLongEncodings(t *testing.T) {
	r := rand.New(rand.NewSource(2))
	seen := map[int]bool{}
	for !seen[api.MaxHost-1] || !seen[api.MaxHost] || !seen[api.MaxHost+1] {
		points := make([]int, 244+r.Intn(api.MaxPoints-243))
		for i := range points {
			points[i] = 0x10000 + r.Intn(0x100000)
		}
		checkPoints(t, points)
		seen[len(encodingOf(points))] = true
	}
}

// P12.2: the errors, and the order in which they are found.
func TestDecodeErrors(t *testing.T) {
	many := strings.Repeat("a", api.MaxPoints)
	long := strings.Repeat("!", api.MaxHost)
	noPoint := numberText((0x110000-128)*(api.MaxPoints+1), 0, 72)
	great := numberText(variableLimit+1, 0, 72)
	for _, c := range []struct {
		s    string
		want api.Errno
	}{
		{long, api.ErrSyntax},
		{long + "!", api.ErrLimit},
		{long + "\x80", api.ErrLimit},
		{long[1:] + "\x80", api.ErrSyntax},
		{strings.Repeat("a", api.MaxHost), api.ErrLimit},
		{many + "a-\x80", api.ErrSyntax},
		{many + "a-", api.ErrLimit},
		{many + "a-!", api.ErrLimit},
		{many + "a-a", api.ErrLimit},
		{many + "-!", api.ErrSyntax},
		{many + "-z", api.ErrSyntax},
		{many + "-a", api.ErrLimit},
		{many + "-a!", api.ErrLimit},
		{many + "-" + noPoint, api.ErrRange},
		{many + "-" + noPoint + "!", api.ErrRange},
		{many + "-" + great, api.ErrOverflow},
		{many + "a", api.ErrLimit},
		{many + "a!", api.ErrLimit},
		{many + "!", api.ErrSyntax},
		{"-", api.ErrSyntax},
		{"-a", api.ErrSyntax},
		{"-tda", api.ErrSyntax},
		{"a-!", api.ErrSyntax},
		{"a-z", api.ErrSyntax},
		{"a-a z", api.ErrSyntax},
		{"a b", api.ErrSyntax},
		{"z", api.ErrSyntax},
		{"td", api.ErrSyntax},
		{"t", api.ErrSyntax},
		{"tda!", api.ErrSyntax},
		{"tda9", api.ErrSyntax},
		{"tda\x00", api.ErrSyntax},
		{"tda\x7f", api.ErrSyntax},
		{"tda_", api.ErrSyntax},
		{"\u00fc", api.ErrSyntax},
		{"a\x80-b", api.ErrSyntax},
		{"\xff-", api.ErrSyntax},
		{"a-\x80", api.ErrSyntax},
		{"99999b\x80", api.ErrSyntax},
		{"99999999999999999999", api.ErrOverflow},
		{"99999999999999999999!", api.ErrOverflow},
		{"999999!99999999999999", api.ErrSyntax},
		{"9999999", api.ErrSyntax},
		{"99999b", api.ErrRange},
		{"99999b!", api.ErrRange},
		{"99999b99999999999999", api.ErrRange},
		{"a-99999999999999999999", api.ErrOverflow},
		{strings.Repeat("9", 1<<20), api.ErrLimit},
		{strings.Repeat("a-", 1<<20), api.ErrLimit},
	} {
		checkRejected(t, c.s, c.want)
		check(t, c.s)
	}
}

// P12.2: as many code points as are permitted, basic ones and others.
func TestDecodeMaxPoints(t *testing.T) {
	for basic := range api.MaxPoints + 1 {
		others := api.MaxPoints - basic
		text := strings.Repeat("b", basic)
		if basic > 0 {
			text += "-"
		}
		text += strings.Repeat("a", others)
		checkPair(t, append(slices.Repeat([]int{128}, others), slices.Repeat([]int{'b'}, basic)...), text)
		checkRejected(t, text+"a", api.ErrLimit)
		if basic > 0 {
			checkRejected(t, "b"+text, api.ErrLimit)
		}
		check(t, "b"+text)
	}
}

// P12.2: numbers around the greatest value of i, behind nothing, behind basic code points
// and behind another number.
// No text lets w exceed the limit before i does: a bias is at most 177, so that from
// the sixth digit on, where w is at most 35^5, every threshold is 26; the digits of a number
// that goes on are then at least 26, so that i grows more than w, which becomes 10 times w.
func TestOverflow(t *testing.T) {
	for _, c := range []struct {
		before string
		i      int // before the number
		bias   int
	}{
		{"", 0, 72},
		{"x-", 0, 72},
		{"ab-cd-", 0, 72},
		{"a", 1, biasAfter(0, 1, true)},
		{"x-ba", 2, biasAfter(1, 2, true)},
		{"dn32g", 1, biasAfter(0x10FFFF-128, 1, true)},
	} {
		for add := range 100 {
			checkRejected(t, c.before+numberText(variableLimit-c.i-add, 0, c.bias), api.ErrRange)
			checkRejected(t, c.before+numberText(variableLimit-c.i-add, 0, c.bias)+"!", api.ErrRange)
			checkRejected(t, c.before+numberText(variableLimit-c.i+1+add, 0, c.bias), api.ErrOverflow)
			checkRejected(t, c.before+numberText(variableLimit-c.i+1+add, 0, c.bias)+"!", api.ErrOverflow)
		}
		for shift := range 23 {
			for add := -3; add <= 3; add++ {
				s := c.before + numberText(variableLimit<<shift+add, 0, c.bias)
				for end := len(c.before); end <= len(s); end++ {
					check(t, s[:end])
					check(t, s[:end]+"!")
					check(t, s[:end]+"a")
					check(t, s[:end]+"9")
				}
			}
		}
	}
}

// P12.2: numbers whose last code point is around the borders of the code points.
func TestDecodeErrRange(t *testing.T) {
	for _, before := range []string{"", "x", "xyz", "----------", strings.Repeat("x", api.MaxPoints-1)} {
		count := len(before) + 1
		prefix := before
		if before != "" {
			prefix += "-"
		}
		for _, border := range []int{0xD800, 0xE000, 0x110000} {
			for n := border - 3; n < border+3; n++ {
				for _, place := range []int{0, count / 2, count - 1} {
					s := prefix + numberText((n-128)*count+place, 0, 72)
					want := slices.Insert(pointsOf(before), place, n)
					if 0xD800 <= n && n <= 0xDFFF || n > 0x10FFFF {
						checkRejected(t, s, api.ErrRange)
						checkRejected(t, s+"!", api.ErrRange)
					} else {
						checkPair(t, want, s)
					}
				}
			}
		}
	}
	// The code points of later numbers count on from the one before.
	checkPair(t, []int{0xD7FF, 0xE000}, encodingOf([]int{0xD7FF, 0xE000}))
	first := encodingOf([]int{0xD7FF})
	bias := biasAfter(0xD7FF-128, 1, true)
	for n := 0xD7FF; n < 0xE003; n++ {
		check(t, first+numberText((n-0xD7FF)*2, 0, bias))
		check(t, first+numberText((n-0xD7FF)*2+1, 0, bias))
	}
}

// P12.2: each byte in each place, instead of another one and between two.
func TestEveryByte(t *testing.T) {
	for _, s := range []string{"", "-", "a", "--", "ab-", "tda", "bcher-kva", "-a-eha", "99999b", "3B-ww4c5e180e575a65lsy2b", "ihqwcrb4cv8a8dqg056pqjye", strings.Repeat("9", 20)} {
		for i := range len(s) + 1 {
			for b := range 256 {
				c := string([]byte{byte(b)})
				check(t, s[:i]+c+s[i:])
				if i < len(s) {
					check(t, s[:i]+c+s[i+1:])
				}
			}
			check(t, s[:i])
			check(t, s[i:])
		}
	}
}

// P12.2: all pairs of bytes behind a basic code point, and all short texts of a few bytes.
func TestShortTexts(t *testing.T) {
	for a := range 256 {
		for b := range 256 {
			check(t, string([]byte{byte(a), byte(b)}))
			check(t, string([]byte{'x', '-', byte(a), byte(b)}))
		}
	}
	texts("-abzAZ09!\x80", 5, func(s string) { check(t, s) })
	texts("-a9", 8, func(s string) { check(t, s) })
	texts("by0", 9, func(s string) { check(t, "x-"+s) })
}

// P12.2: random texts of digits behind some basic code points.
func TestRandomTexts(t *testing.T) {
	r := rand.New(rand.NewSource(3))
	for range 50000 {
		var b []byte
		if n := r.Intn(20); n > 0 {
			for range n {
				b = append(b, byte(r.Intn(128)))
			}
			b = append(b, '-')
		}
		// Small digits make short numbers, so that there are several of them.
		most := 1 + r.Intn(len(digitBytes))
		for range r.Intn(20) {
			b = append(b, digitBytes[r.Intn(most)])
		}
		check(t, string(b))
		check(t, strings.ToUpper(string(b)))
	}
}

// P12.1 and P12.2: neither function changes or keeps its argument, and results share no
// memory with anything.
func TestMemory(t *testing.T) {
	points := append(make([]int, 0, 20), pointsOf("b\u00fccher")...)
	spare := points[:cap(points)]
	for i := len(points); i < len(spare); i++ {
		spare[i] = -7 - i
	}
	given := slices.Clone(spare)
	s, _ := Encode(points)
	if !slices.Equal(spare, given) {
		t.Errorf("Encode changed its argument to %x", spare)
	}
	clear(spare)
	if again, _ := Encode(given[:len(points)]); s != "bcher-kva" || again != s {
		t.Errorf("Encode: %q, then %q", s, again)
	}
	for _, text := range []string{"bcher-kva", "abc-", "aaa", "egbpdaj6bu4bxfgehfvwxn"} {
		first, _ := Decode(text)
		want := slices.Clone(first)
		second, _ := Decode(text)
		clear(first[:cap(first)])
		if !slices.Equal(second, want) {
			t.Errorf("Decode(%q) shares memory: %x", text, second)
		}
		if third, err := Decode(text); !slices.Equal(third, want) || err != api.OK {
			t.Errorf("Decode(%q) = %x, %d, want %x", text, third, err, want)
		}
	}
}

// The examples of the chapter.
func TestExamples(t *testing.T) {
	checkPair(t, []int{'b', 0xFC, 'c', 'h', 'e', 'r'}, "bcher-kva")
	checkPair(t, []int{'a', 'b'}, "ab-")
	checkPair(t, nil, "")
	checkRejected(t, "-", api.ErrSyntax)
}
