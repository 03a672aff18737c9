package extent

import (
	"bytes"
	"math"
	"math/big"
	"math/rand"
	"slices"
	"testing"

	"hstsstore/api"
	"hstsstore/sector"
)

const size = api.SectorSize

// inside is an extent of three sectors, with sectors of testDisk before and behind it.
var inside = api.Extent{First: 1, Count: 3}

// pattern returns n bytes that differ from sector to sector, and with the seed.
func pattern(n, seed int) []byte {
	b := make([]byte, n)
	for i := range b {
		b[i] = byte(i*7 + i/size*13 + seed)
	}
	return b
}

// loaded returns a disk with these stored contents.
func loaded(t *testing.T, image []byte) *sector.Disk {
	t.Helper()
	d, err := sector.Load(image)
	check(t, "Load", err, api.OK)
	return d
}

// testDisk returns a disk of five sectors, the contents of two of which are in the cache only.
func testDisk(t *testing.T) *sector.Disk {
	t.Helper()
	d := loaded(t, pattern(5*size, 1))
	check(t, "Disk.Write", d.Write(2, pattern(size, 99)), api.OK)
	check(t, "Disk.Write", d.Write(4, pattern(size, 55)), api.OK)
	return d
}

// testContents returns the contents of testDisk.
func testContents() []byte {
	b := pattern(5*size, 1)
	copy(b[2*size:], pattern(size, 99))
	copy(b[4*size:], pattern(size, 55))
	return b
}

// check fails the test if the error of a call is not the one that is wanted.
func check(t *testing.T, call string, err, want api.Errno) {
	t.Helper()
	if err != want {
		t.Errorf("%s returns the error %d, want %d", call, err, want)
	}
}

// checkContents compares the contents of all sectors, those in the cache included. It ends
// a power failure, and moves the cache to the stored contents.
func checkContents(t *testing.T, d *sector.Disk, want []byte) {
	t.Helper()
	var keep []api.Keep
	for _, i := range d.Dirty() {
		keep = append(keep, api.Keep{Sector: i, Bytes: size})
	}
	d.Restart(keep)
	if got := d.Image(); !bytes.Equal(got, want) {
		t.Errorf("the disk contains %x, want %x", got, want)
	}
}

// checkOperations calls f, which is to perform n operations without an error of the disk.
func checkOperations(t *testing.T, d *sector.Disk, n int, f func()) {
	t.Helper()
	check(t, "Arm", d.Arm([]api.Fault{{At: n, Kind: api.FaultError}}), api.OK)
	f()
	check(t, "the operation behind the call", d.Sync(), api.ErrIO)
	check(t, "Arm", d.Arm(nil), api.OK)
}

// touched returns the sectors of an extent that contain one of the n bytes from off on.
func touched(off, n int) []int {
	var sectors []int
	for k := off; k < off+n; k++ {
		if !slices.Contains(sectors, k/size) {
			sectors = append(sectors, k/size)
		}
	}
	return sectors
}

// eachRange calls f for all ranges of bytes of inside.
func eachRange(f func(off, n int)) {
	for off := range inside.Count*size + 1 {
		for n := range inside.Count*size - off + 1 {
			f(off, n)
		}
	}
}

// borderRanges returns ranges of bytes of inside, as offsets and lengths, whose ends lie
// around the borders of sectors.
func borderRanges() [][2]int {
	ends := []int{0, 1, 10, 63, 64, 65, 100, 127, 128, 129, 191, 192}
	var ranges [][2]int
	for i, off := range ends {
		for _, end := range ends[i:] {
			ranges = append(ranges, [2]int{off, end - off})
		}
	}
	return ranges
}

// invalidExtents returns extents that are not valid for a disk of five sectors. The sums
// of some of them, modulo 2^64, are in its range.
func invalidExtents() []api.Extent {
	return []api.Extent{
		{First: 0, Count: 0}, {First: 2, Count: 0}, {First: 5, Count: 0}, {First: 0, Count: -1}, {First: 3, Count: -2},
		{First: -1, Count: 1}, {First: -1, Count: 3}, {First: -2, Count: 2}, {First: math.MinInt, Count: 1}, {First: math.MinInt, Count: math.MaxInt},
		{First: 0, Count: 6}, {First: 1, Count: 5}, {First: 4, Count: 2}, {First: 5, Count: 1}, {First: 6, Count: 1},
		{First: math.MaxInt, Count: 1}, {First: 1, Count: math.MaxInt}, {First: math.MaxInt, Count: math.MaxInt},
		{First: 4, Count: math.MinInt}, {First: math.MinInt, Count: math.MinInt}, {First: 1 << 32, Count: 1}, {First: 0, Count: 1<<32 + 1},
	}
}

// outOfRange returns offsets and lengths that are not in the range of inside. The sums of
// some of them, modulo 2^64, are.
func outOfRange() [][2]int {
	return [][2]int{
		{-1, 0}, {-1, 1}, {-1, 2}, {-size, size}, {math.MinInt, 0}, {math.MinInt, math.MaxInt},
		{0, 193}, {1, 192}, {64, 129}, {191, 2}, {192, 1}, {193, 0}, {256, 0}, {0, 1 << 32},
		{math.MaxInt, 0}, {math.MaxInt, 1}, {math.MaxInt, 5}, {1, math.MaxInt}, {math.MaxInt, math.MaxInt},
	}
}

// P6.1: all sums are exact.
func TestValid(t *testing.T) {
	numbers := []int{math.MinInt, math.MinInt + 1, -1 << 32, -api.MaxSectors, api.MaxSectors - 1, api.MaxSectors, api.MaxSectors + 1, 1 << 32, 1<<32 + 1, 1 << 58, 1 << 62, math.MaxInt - 1, math.MaxInt}
	for i := -8; i <= 8; i++ {
		numbers = append(numbers, i)
	}
	for _, sectors := range []int{1, 2, 5, 6, api.MaxSectors} {
		d, err := sector.New(sectors)
		check(t, "New", err, api.OK)
		for _, first := range numbers {
			for _, count := range numbers {
				sum := new(big.Int).Add(big.NewInt(int64(first)), big.NewInt(int64(count)))
				want := first >= 0 && count >= 1 && sum.Cmp(big.NewInt(int64(sectors))) <= 0
				if got := Valid(d, api.Extent{First: first, Count: count}); got != want {
					t.Errorf("the validity of %d sectors from %d on, of %d, is %v", count, first, sectors, got)
				}
			}
		}
	}
}

// P6.1: the list that other tests use, and extents that are valid.
func TestValidOfFiveSectors(t *testing.T) {
	d := testDisk(t)
	for _, e := range invalidExtents() {
		if Valid(d, e) {
			t.Errorf("the extent %d is valid", e)
		}
	}
	for first := range 5 {
		for count := 1; first+count <= 5; count++ {
			if !Valid(d, api.Extent{First: first, Count: count}) {
				t.Errorf("%d sectors from %d on are not valid", count, first)
			}
		}
	}
}

// P6.1: a nil disk has no sectors.
func TestValidOfNilDisk(t *testing.T) {
	for _, e := range append(invalidExtents(), inside, api.Extent{First: 0, Count: 1}) {
		if Valid(nil, e) {
			t.Errorf("the extent %d is valid for a nil disk", e)
		}
	}
}

// P6.1: the disk needs no power for it, and its operations are not counted.
func TestValidPerformsNoOperation(t *testing.T) {
	d := testDisk(t)
	checkOperations(t, d, 0, func() { Valid(d, inside) })
	d.Cut()
	if !Valid(d, inside) {
		t.Error("without power, an extent is not valid")
	}
}

// P6.1: the product of some of these numbers with SectorSize, modulo 2^64, is small.
func TestSize(t *testing.T) {
	for count, want := range map[int]int{
		0: 0, 1: 64, 2: 128, 5: 320, 60: 3840, api.MaxSectors - 1: 262080, api.MaxSectors: 262144,
		api.MaxSectors + 1: 0, 1 << 32: 0, 1 << 58: 0, 1<<58 + 1: 0, math.MaxInt: 0,
		-1: 0, -5: 0, -api.MaxSectors: 0, -1<<58 + 1: 0, math.MinInt: 0, math.MinInt + 1: 0,
	} {
		for _, first := range []int{0, 1, -1, api.MaxSectors, math.MinInt, math.MaxInt} {
			if got := Size(api.Extent{First: first, Count: count}); got != want {
				t.Errorf("the size of %d sectors from %d on is %d, want %d", count, first, got, want)
			}
		}
	}
}

// P6.2: all ranges of an extent.
func TestRead(t *testing.T) {
	d := testDisk(t)
	want := testContents()[inside.First*size:]
	eachRange(func(off, n int) {
		got, err := Read(d, inside, off, n)
		if err != api.OK || !bytes.Equal(got, want[off:off+n]) {
			t.Errorf("the %d bytes from %d on are %x, error %d, want %x", n, off, got, err, want[off:off+n])
		}
	})
	if !slices.Equal(d.Dirty(), []int{2, 4}) || !bytes.Equal(d.Image(), pattern(5*size, 1)) {
		t.Error("Read changes the disk")
	}
}

// P6.2: one operation for each sector.
func TestReadOperations(t *testing.T) {
	d := testDisk(t)
	for _, r := range borderRanges() {
		checkOperations(t, d, len(touched(r[0], r[1])), func() {
			_, err := Read(d, inside, r[0], r[1])
			check(t, "Read", err, api.OK)
		})
	}
}

// P6.2: after the first error, no further sector is read.
func TestReadFails(t *testing.T) {
	for _, r := range borderRanges() {
		for at := range touched(r[0], r[1]) {
			d := testDisk(t)
			check(t, "Arm", d.Arm([]api.Fault{{At: at, Kind: api.FaultError}, {At: at + 1, Kind: api.FaultError}}), api.OK)
			b, err := Read(d, inside, r[0], r[1])
			check(t, "Read of a disk with an error", err, api.ErrIO)
			check(t, "the operation behind it", d.Sync(), api.ErrIO)
			check(t, "Arm", d.Arm([]api.Fault{{At: at, Kind: api.FaultPower}}), api.OK)
			c, err := Read(d, inside, r[0], r[1])
			check(t, "Read during a power failure", err, api.ErrOff)
			if len(b) != 0 || len(c) != 0 || !d.Off() {
				t.Errorf("with errors, Read returns %x and %x; the power is off: %v", b, c, d.Off())
			}
			checkContents(t, d, testContents())
		}
	}
}

// P6.2 and P6.3: errors that need no operation, in the order of the chapter.
func TestArguments(t *testing.T) {
	for _, cut := range []bool{false, true} {
		d := testDisk(t)
		check(t, "Arm", d.Arm([]api.Fault{{At: 0, Kind: api.FaultError}}), api.OK)
		if cut {
			d.Cut()
		}
		for _, e := range invalidExtents() {
			checkArguments(t, d, e, append(outOfRange(), [2]int{0, 0}, [2]int{0, 1}, [2]int{60, 70}), api.ErrInvalid)
		}
		checkArguments(t, d, inside, outOfRange(), api.ErrRange)
		if !cut {
			check(t, "the first operation", d.Sync(), api.ErrIO)
		}
		checkContents(t, d, testContents())
	}
	checkArguments(t, nil, inside, append(outOfRange(), [2]int{0, 0}, [2]int{0, 1}), api.ErrInvalid)
}

// checkArguments checks the error of Read and Write for these offsets and lengths.
func checkArguments(t *testing.T, d *sector.Disk, e api.Extent, ranges [][2]int, want api.Errno) {
	t.Helper()
	for _, r := range ranges {
		b, err := Read(d, e, r[0], r[1])
		if err != want || len(b) != 0 {
			t.Errorf("Read of %d bytes of %d from %d on returns %x, error %d, want %d", r[1], e, r[0], b, err, want)
		}
		// A slice has no other length.
		if r[1] < 0 || r[1] > 1000 {
			continue
		}
		if err := Write(d, e, r[0], make([]byte, r[1])); err != want {
			t.Errorf("Write of %d bytes to %d from %d on returns the error %d, want %d", r[1], e, r[0], err, want)
		}
	}
}

// P6.2: numbers of bytes that no slice has.
func TestReadOfNegativeNumber(t *testing.T) {
	d := testDisk(t)
	for _, n := range []int{-1, -2, -64, -1 << 32, math.MinInt, math.MinInt + 1} {
		for _, off := range []int{0, 1, 64, 191, 192, 193, 1000, math.MaxInt, -1, math.MinInt} {
			if b, err := Read(d, inside, off, n); err != api.ErrRange || len(b) != 0 {
				t.Errorf("Read of %d bytes from %d on returns %x, error %d", n, off, b, err)
			}
		}
		if b, err := Read(d, api.Extent{First: 5, Count: 1}, 0, n); err != api.ErrInvalid || len(b) != 0 {
			t.Errorf("Read of %d bytes of an extent that is not valid returns %x, error %d", n, b, err)
		}
	}
}

// P6.2 and P6.3: the power is off before the first operation.
func TestWithoutPower(t *testing.T) {
	for _, r := range borderRanges() {
		d := testDisk(t)
		d.Cut()
		want := api.ErrOff
		if r[1] == 0 {
			want = api.OK
		}
		b, err := Read(d, inside, r[0], r[1])
		check(t, "Read without power", err, want)
		check(t, "Write without power", Write(d, inside, r[0], pattern(r[1], 3)), want)
		if len(b) != 0 {
			t.Errorf("without power, Read returns %x", b)
		}
		checkContents(t, d, testContents())
	}
}

// P6.3: all ranges of an extent, also on top of contents that are in the cache only.
func TestWrite(t *testing.T) {
	eachRange(func(off, n int) {
		d := testDisk(t)
		data := pattern(n, 200)
		want := testContents()
		copy(want[inside.First*size+off:], data)
		check(t, "Write", Write(d, inside, off, data), api.OK)
		if got, err := Read(d, inside, off, n); err != api.OK || !bytes.Equal(got, data) {
			t.Errorf("reading what was written returns %x, error %d, want %x", got, err, data)
		}
		if !bytes.Equal(d.Image(), pattern(5*size, 1)) {
			t.Error("Write stores what should be in the cache")
		}
		checkContents(t, d, want)
	})
}

// P6.3: only the sectors that contain one of the bytes are written.
func TestWriteToSectors(t *testing.T) {
	for _, r := range borderRanges() {
		d := loaded(t, pattern(5*size, 1))
		check(t, "Write", Write(d, inside, r[0], pattern(r[1], 4)), api.OK)
		var want []int
		for _, i := range touched(r[0], r[1]) {
			want = append(want, inside.First+i)
		}
		if got := d.Dirty(); !slices.Equal(got, want) {
			t.Errorf("Write of %d bytes from %d on writes the sectors %d, want %d", r[1], r[0], got, want)
		}
	}
}

// A step is an operation of a Write, with the sector of the disk.
type step struct {
	write  bool
	sector int
}

// steps returns the operations of a Write of n bytes from off on to inside.
func steps(off, n int) []step {
	var all []step
	for _, i := range touched(off, n) {
		if off > i*size || off+n < (i+1)*size {
			all = append(all, step{false, inside.First + i})
		}
		all = append(all, step{true, inside.First + i})
	}
	return all
}

// P6.3: the number of the operations.
func TestWriteOperations(t *testing.T) {
	for _, r := range borderRanges() {
		d := testDisk(t)
		checkOperations(t, d, len(steps(r[0], r[1])), func() {
			check(t, "Write", Write(d, inside, r[0], pattern(r[1], 5)), api.OK)
		})
	}
}

// P6.3: each operation of a Write can fail. What was written before it remains written, a
// power failure during Disk.Write leaves its data in the cache, and nothing follows.
func TestWriteFails(t *testing.T) {
	for _, r := range borderRanges() {
		off, data := r[0], pattern(r[1], 6)
		all := steps(off, len(data))
		for at := range all {
			checkFailedWrite(t, off, data, all, at, api.FaultError)
			checkFailedWrite(t, off, data, all, at, api.FaultPower)
		}
	}
}

// checkFailedWrite writes data to inside, with a fault armed for the operation at.
func checkFailedWrite(t *testing.T, off int, data []byte, all []step, at, kind int) {
	t.Helper()
	d := testDisk(t)
	check(t, "Arm", d.Arm([]api.Fault{{At: at, Kind: kind}, {At: at + 1, Kind: api.FaultError}}), api.OK)
	err := Write(d, inside, off, data)
	effective := all[:at]
	if kind == api.FaultError {
		check(t, "Write to a disk with an error", err, api.ErrIO)
		check(t, "the operation behind it", d.Sync(), api.ErrIO)
	} else {
		check(t, "Write during a power failure", err, api.ErrOff)
		effective = all[:at+1]
	}
	whole := testContents()
	copy(whole[inside.First*size+off:], data)
	want := testContents()
	for _, s := range effective {
		if s.write {
			copy(want[s.sector*size:], whole[s.sector*size:(s.sector+1)*size])
		}
	}
	checkContents(t, d, want)
}

// Extents that begin with the first sector or end with the last one.
func TestAtTheEndsOfDisk(t *testing.T) {
	for _, sectors := range []int{1, 2, api.MaxSectors} {
		for _, e := range []api.Extent{{First: 0, Count: sectors}, {First: 0, Count: 1}, {First: sectors - 1, Count: 1}, {First: sectors / 2, Count: sectors - sectors/2}} {
			image := pattern(sectors*size, 7)
			d := loaded(t, image)
			got, err := Read(d, e, 0, Size(e))
			if err != api.OK || !bytes.Equal(got, image[e.First*size:(e.First+e.Count)*size]) {
				t.Errorf("Read of the extent %d returns the error %d, or other bytes", e, err)
			}
			check(t, "Write of one byte", Write(d, e, Size(e)-1, []byte{99}), api.OK)
			image[(e.First+e.Count)*size-1] = 99
			check(t, "Write of a byte behind the end", Write(d, e, Size(e), []byte{98}), api.ErrRange)
			checkContents(t, d, image)
			data := pattern(Size(e), 8)
			checkOperations(t, d, e.Count, func() { check(t, "Write of an extent", Write(d, e, 0, data), api.OK) })
			copy(image[e.First*size:], data)
			checkContents(t, d, image)
		}
	}
}

// The example of the chapter: with an error in any of the four operations, this many of the
// bytes are written.
func TestExample(t *testing.T) {
	e := api.Extent{First: 0, Count: 2}
	image, data := pattern(2*size, 9), pattern(10, 10)
	for at, written := range []int{0, 0, 4, 4, 10} {
		d := loaded(t, image)
		check(t, "Arm", d.Arm([]api.Fault{{At: at, Kind: api.FaultError}}), api.OK)
		want := api.ErrIO
		if at == 4 {
			want = api.OK
		}
		check(t, "Write", Write(d, e, 60, data), want)
		checkContents(t, d, slices.Concat(image[:60], data[:written], image[60+written:]))
	}
}

// The rule that arguments are neither modified nor kept, including their spare capacity.
func TestArgumentsAreCopied(t *testing.T) {
	for _, r := range borderRanges() {
		d := testDisk(t)
		whole := pattern(400, 11)
		data := whole[100 : 100+r[1]]
		want := testContents()
		copy(want[inside.First*size+r[0]:], data)
		check(t, "Write", Write(d, inside, r[0], data), api.OK)
		if !bytes.Equal(whole, pattern(400, 11)) {
			t.Errorf("Write of %d bytes to %d changes its argument, or what is beside it", r[1], r[0])
		}
		clear(whole)
		checkContents(t, d, want)
	}
}

// The rule that results are new memory, including their spare capacity.
func TestResultsAreCopied(t *testing.T) {
	d := testDisk(t)
	for _, r := range borderRanges() {
		first, _ := Read(d, inside, r[0], r[1])
		second, _ := Read(d, inside, r[0], r[1])
		clear(first[:cap(first)])
		want := testContents()[inside.First*size+r[0]:][:r[1]]
		if !bytes.Equal(second, want) {
			t.Errorf("two results share memory: %x, want %x", second, want)
		}
	}
	checkContents(t, d, testContents())
}

// P6.1 to P6.3: many calls on one disk, compared with a slice of bytes.
func TestManyCalls(t *testing.T) {
	for seed := range 100 {
		r := rand.New(rand.NewSource(int64(seed)))
		sectors := 1 + r.Intn(8)
		contents := pattern(sectors*size, seed)
		d := loaded(t, contents)
		for range 100 {
			e := api.Extent{First: r.Intn(sectors+2) - 1, Count: r.Intn(sectors + 2)}
			off, n := r.Intn(300)-5, r.Intn(200)
			want := api.OK
			if e.First < 0 || e.Count < 1 || e.First+e.Count > sectors {
				want = api.ErrInvalid
			} else if off < 0 || off+n > e.Count*size {
				want = api.ErrRange
			}
			start := e.First*size + off
			if r.Intn(2) == 0 {
				data := pattern(n, r.Intn(256))
				check(t, "Write", Write(d, e, off, data), want)
				if want == api.OK {
					copy(contents[start:], data)
				}
				continue
			}
			var wanted []byte
			if want == api.OK {
				wanted = contents[start : start+n]
			}
			got, err := Read(d, e, off, n)
			check(t, "Read", err, want)
			if !bytes.Equal(got, wanted) {
				t.Errorf("Read returns %x, want %x", got, wanted)
			}
		}
		checkContents(t, d, contents)
		if t.Failed() {
			t.Fatalf("with the seed %d", seed)
		}
	}
}
