package sector

import (
	"bytes"
	"math"
	"math/rand"
	"slices"
	"testing"

	"hstsstore/api"
)

// block returns the content of a sector: bytes that follow one another from b on.
func block(b byte) []byte {
	content := make([]byte, api.SectorSize)
	for i := range content {
		content[i] = b + byte(i)
	}
	return content
}

// torn returns the first n bytes of a, followed by the rest of b.
func torn(n int, a, b []byte) []byte {
	return append(bytes.Clone(a[:n]), b[n:]...)
}

// zeros returns n bytes that are 0.
func zeros(n int) []byte { return make([]byte, n) }

// newDisk returns a disk with n sectors.
func newDisk(t *testing.T, n int) *Disk {
	t.Helper()
	d, err := New(n)
	if err != api.OK || d == nil {
		t.Fatalf("New(%d) returns the error %d", n, err)
	}
	return d
}

// loaded returns a disk with these stored contents.
func loaded(t *testing.T, contents ...[]byte) *Disk {
	t.Helper()
	d, err := Load(bytes.Join(contents, nil))
	if err != api.OK || d == nil {
		t.Fatalf("Load of %d sectors returns the error %d", len(contents), err)
	}
	return d
}

// check fails the test if the error of a call is not the one that is wanted.
func check(t *testing.T, call string, err, want api.Errno) {
	t.Helper()
	if err != want {
		t.Errorf("%s returns the error %d, want %d", call, err, want)
	}
}

// arm arms faults, without an error.
func arm(t *testing.T, d *Disk, faults ...api.Fault) {
	t.Helper()
	check(t, "Arm", d.Arm(faults), api.OK)
}

// checkContents compares the contents of all sectors, as Read returns them.
func checkContents(t *testing.T, d *Disk, want ...[]byte) {
	t.Helper()
	for i, w := range want {
		if got, err := d.Read(i); err != api.OK || !bytes.Equal(got, w) {
			t.Errorf("sector %d contains %x, error %d, want %x", i, got, err, w)
		}
	}
}

// checkStored compares the stored contents of all sectors.
func checkStored(t *testing.T, d *Disk, want ...[]byte) {
	t.Helper()
	if got := d.Image(); !bytes.Equal(got, bytes.Join(want, nil)) {
		t.Errorf("the image is %x, want %x", got, want)
	}
}

// checkDirty compares the numbers of the sectors in the cache.
func checkDirty(t *testing.T, d *Disk, want ...int) {
	t.Helper()
	if got := d.Dirty(); !slices.Equal(got, want) {
		t.Errorf("the sectors in the cache are %d, want %d", got, want)
	}
}

// checkOnlyFirstFails checks that an error is armed for the operation 0, and none for the next ones.
func checkOnlyFirstFails(t *testing.T, d *Disk) {
	t.Helper()
	check(t, "the operation 0", d.Sync(), api.ErrIO)
	for range 5 {
		check(t, "an operation behind it", d.Sync(), api.OK)
	}
}

// P5.1
func TestNew(t *testing.T) {
	for _, n := range []int{1, 2, 3, 60, api.MaxSectors - 1, api.MaxSectors} {
		d := newDisk(t, n)
		if d.Sectors() != n || d.Off() {
			t.Errorf("New(%d) has %d sectors, and its power is off: %v", n, d.Sectors(), d.Off())
		}
		checkDirty(t, d)
		checkStored(t, d, zeros(n*api.SectorSize))
		checkContents(t, d, slices.Repeat([][]byte{zeros(api.SectorSize)}, n)...)
	}
}

// P5.1: the product of some of these numbers with SectorSize, modulo 2^64, is in the range.
func TestNewRejects(t *testing.T) {
	for _, n := range []int{0, -1, -60, api.MaxSectors + 1, 1 << 31, 1<<32 + 1, 1 << 58, 1<<58 + 1, 1<<62 + 60, math.MinInt, math.MinInt + 1, math.MaxInt} {
		if d, err := New(n); d != nil || err != api.ErrRange {
			t.Errorf("New(%d) returns the error %d", n, err)
		}
	}
}

// P5.1
func TestLoad(t *testing.T) {
	for _, n := range []int{1, 2, 3, 60, api.MaxSectors - 1, api.MaxSectors} {
		var contents [][]byte
		for i := range n {
			contents = append(contents, block(byte(i*7)))
		}
		d := loaded(t, contents...)
		if d.Sectors() != n || d.Off() {
			t.Errorf("Load of %d sectors has %d, and its power is off: %v", n, d.Sectors(), d.Off())
		}
		checkDirty(t, d)
		checkStored(t, d, contents...)
		checkContents(t, d, contents...)
	}
}

// P5.1
func TestLoadRejects(t *testing.T) {
	const size = api.SectorSize
	for _, n := range []int{0, 1, size - 1, size + 1, 2*size - 1, api.MaxSectors*size - 1, api.MaxSectors*size + 1, (api.MaxSectors + 1) * size, 2 * api.MaxSectors * size} {
		if d, err := Load(zeros(n)); d != nil || err != api.ErrRange {
			t.Errorf("Load of %d bytes returns the error %d", n, err)
		}
	}
	if d, err := Load(nil); d != nil || err != api.ErrRange {
		t.Errorf("Load(nil) returns the error %d", err)
	}
}

// P5.1
func TestLoadOfImage(t *testing.T) {
	d := loaded(t, block(1), block(2))
	check(t, "Write", d.Write(1, block(3)), api.OK)
	copied, err := Load(d.Image())
	check(t, "Load", err, api.OK)
	checkContents(t, copied, block(1), block(2))
	checkDirty(t, copied)
}

// P5.1
func TestDirty(t *testing.T) {
	d := newDisk(t, 100)
	var written []int
	for i := range 100 {
		// 37 is prime to 100, so that each sector is written once.
		written = append(written, i*37%100)
		check(t, "Write", d.Write(i*37%100, block(1)), api.OK)
		slices.Sort(written)
		checkDirty(t, d, written...)
	}
	check(t, "a second Write", d.Write(50, block(2)), api.OK)
	checkDirty(t, d, written...)
	checkStored(t, d, zeros(100*api.SectorSize))
	check(t, "Sync", d.Sync(), api.OK)
	checkDirty(t, d)
	// A sector is in the cache also if its content does not change.
	check(t, "Write of the stored content", d.Write(50, block(2)), api.OK)
	checkDirty(t, d, 50)
}

// P5.2: an error of the operation 2 of five.
func TestArm(t *testing.T) {
	d := newDisk(t, 1)
	for range 2 {
		arm(t, d, api.Fault{At: 2, Kind: api.FaultError})
		for i := range 5 {
			want := api.OK
			if i == 2 {
				want = api.ErrIO
			}
			check(t, "Sync", d.Sync(), want)
		}
	}
}

// P5.2
func TestArmReplaces(t *testing.T) {
	d := newDisk(t, 1)
	arm(t, d, api.Fault{At: 0, Kind: api.FaultPower}, api.Fault{At: 1, Kind: api.FaultPower})
	arm(t, d, api.Fault{At: 0, Kind: api.FaultError})
	checkOnlyFirstFails(t, d)
	arm(t, d, api.Fault{At: 0, Kind: api.FaultError})
	arm(t, d)
	check(t, "Sync", d.Sync(), api.OK)
	check(t, "Arm(nil)", d.Arm(nil), api.OK)
	check(t, "Arm of no faults", d.Arm([]api.Fault{}), api.OK)
	check(t, "Sync", d.Sync(), api.OK)
}

// P5.2: all of MaxFaults faults count, in any order, and also those of operations that do not come.
func TestArmManyFaults(t *testing.T) {
	d := newDisk(t, 1)
	var faults []api.Fault
	for i := range api.MaxFaults - 1 {
		faults = append(faults, api.Fault{At: 2 * (api.MaxFaults - i), Kind: api.FaultError})
	}
	arm(t, d, append(faults, api.Fault{At: math.MaxInt, Kind: api.FaultPower})...)
	for i := range 3 * api.MaxFaults {
		want := api.OK
		if i%2 == 0 && 4 <= i && i <= 2*api.MaxFaults {
			want = api.ErrIO
		}
		check(t, "Sync", d.Sync(), want)
	}
}

// P5.2: an Arm that returns ErrInvalid neither changes the faults nor the count.
func TestArmRejects(t *testing.T) {
	valid := []api.Fault{{At: 0, Kind: api.FaultError}, {At: 7, Kind: api.FaultPower}}
	invalid := [][]api.Fault{
		slices.Repeat(valid[:1], api.MaxFaults+1),
		slices.Repeat(valid, api.MaxFaults),
		make([]api.Fault, api.MaxFaults+1),
	}
	for _, kind := range []int{0, 3, 4, -1, -2, 1<<32 + 1, math.MinInt, math.MaxInt} {
		invalid = append(invalid, []api.Fault{{At: 0, Kind: kind}})
	}
	for _, at := range []int{-1, -2, math.MinInt} {
		invalid = append(invalid, []api.Fault{{At: at, Kind: api.FaultError}}, []api.Fault{{At: at, Kind: api.FaultPower}})
	}
	for _, faults := range invalid[3:] {
		invalid = append(invalid, slices.Concat(faults, valid), slices.Concat(valid, faults), slices.Concat(valid, faults, valid))
	}
	for _, faults := range invalid {
		d := newDisk(t, 1)
		check(t, "Arm of invalid faults", d.Arm(faults), api.ErrInvalid)
		check(t, "Sync without faults", d.Sync(), api.OK)
		arm(t, d, api.Fault{At: 1, Kind: api.FaultError})
		check(t, "the operation 0", d.Sync(), api.OK)
		check(t, "Arm of invalid faults", d.Arm(faults), api.ErrInvalid)
		check(t, "the operation 1", d.Sync(), api.ErrIO)
		check(t, "the operation 2", d.Sync(), api.OK)
		d.Cut()
		check(t, "Arm of invalid faults without power", d.Arm(faults), api.ErrInvalid)
	}
}

// P5.3
func TestReadAndWrite(t *testing.T) {
	d := loaded(t, block(1), block(2), block(3))
	check(t, "Write", d.Write(1, block(4)), api.OK)
	checkContents(t, d, block(1), block(4), block(3))
	check(t, "a second Write", d.Write(1, block(5)), api.OK)
	checkContents(t, d, block(1), block(5), block(3))
	checkStored(t, d, block(1), block(2), block(3))
	checkDirty(t, d, 1)
	check(t, "Write", d.Write(2, block(6)), api.OK)
	check(t, "Write", d.Write(0, block(7)), api.OK)
	checkDirty(t, d, 0, 1, 2)
	check(t, "Sync", d.Sync(), api.OK)
	checkStored(t, d, block(7), block(5), block(6))
	checkContents(t, d, block(7), block(5), block(6))
	checkDirty(t, d)
	check(t, "Sync of an empty cache", d.Sync(), api.OK)
	checkStored(t, d, block(7), block(5), block(6))
}

// outOfRange calls the operations with all kinds of arguments that are not in range.
func outOfRange(t *testing.T, d *Disk, want api.Errno) {
	t.Helper()
	for _, i := range []int{-1, d.Sectors(), d.Sectors() + 1, api.MaxSectors, 1 << 58, 1 << 32, math.MinInt, math.MaxInt} {
		b, err := d.Read(i)
		if len(b) != 0 {
			t.Errorf("Read(%d) returns %x", i, b)
		}
		check(t, "Read", err, want)
		check(t, "Write", d.Write(i, block(9)), want)
		check(t, "Write of nothing", d.Write(i, nil), want)
	}
	for _, n := range []int{0, 1, api.SectorSize - 1, api.SectorSize + 1, 2 * api.SectorSize} {
		check(t, "Write", d.Write(0, zeros(n)), want)
	}
	// The spare capacity does not count.
	check(t, "Write", d.Write(0, block(9)[:api.SectorSize-1]), want)
	check(t, "Write of nil", d.Write(0, nil), want)
}

// P5.3: a call that is not in range is not an operation.
func TestOutOfRange(t *testing.T) {
	for _, kind := range []int{api.FaultError, api.FaultPower} {
		d := loaded(t, block(1), block(2))
		outOfRange(t, d, api.ErrRange)
		check(t, "Write", d.Write(1, block(3)), api.OK)
		outOfRange(t, d, api.ErrRange)
		checkContents(t, d, block(1), block(3))
		checkStored(t, d, block(1), block(2))
		checkDirty(t, d, 1)
		arm(t, d, api.Fault{At: 1, Kind: kind})
		outOfRange(t, d, api.ErrRange)
		check(t, "the operation 0", d.Sync(), api.OK)
		outOfRange(t, d, api.ErrRange)
		if err := d.Sync(); err == api.OK || d.Off() != (kind == api.FaultPower) {
			t.Errorf("a fault of the kind %d returns %d", kind, err)
		}
	}
}

// P5.3: without power, the arguments do not matter, and the armed faults do not count.
func TestOperationsWithoutPower(t *testing.T) {
	d := loaded(t, block(1), block(2))
	check(t, "Write", d.Write(1, block(3)), api.OK)
	arm(t, d, api.Fault{At: 0, Kind: api.FaultError})
	d.Cut()
	for range 2 {
		outOfRange(t, d, api.ErrOff)
		b, err := d.Read(0)
		check(t, "Read", err, api.ErrOff)
		if len(b) != 0 {
			t.Errorf("without power, Read returns %x", b)
		}
		check(t, "Write", d.Write(0, block(4)), api.ErrOff)
		check(t, "Sync", d.Sync(), api.ErrOff)
		checkDirty(t, d, 1)
		checkStored(t, d, block(1), block(2))
		check(t, "Arm", d.Arm([]api.Fault{{At: 0, Kind: api.FaultError}}), api.OK)
	}
}

// P5.3: an armed error of any operation has no effect but that the operation is counted.
func TestFaultError(t *testing.T) {
	d := loaded(t, block(1), block(2))
	check(t, "Write", d.Write(0, block(3)), api.OK)
	arm(t, d, api.Fault{At: 0, Kind: api.FaultError}, api.Fault{At: 2, Kind: api.FaultError}, api.Fault{At: 3, Kind: api.FaultError}, api.Fault{At: 5, Kind: api.FaultError})
	check(t, "the operation 0, Sync", d.Sync(), api.ErrIO)
	checkDirty(t, d, 0)
	checkStored(t, d, block(1), block(2))
	check(t, "the operation 1, Write", d.Write(0, block(4)), api.OK)
	check(t, "the operation 2, Write", d.Write(0, block(5)), api.ErrIO)
	check(t, "the operation 3, Write", d.Write(1, block(5)), api.ErrIO)
	checkDirty(t, d, 0)
	if b, err := d.Read(0); !bytes.Equal(b, block(4)) || err != api.OK {
		t.Errorf("the operation 4, Read, returns %x, %d", b, err)
	}
	if b, err := d.Read(0); len(b) != 0 || err != api.ErrIO {
		t.Errorf("the operation 5, Read, returns %x, %d", b, err)
	}
	checkContents(t, d, block(4), block(2))
	check(t, "the operation 8, Sync", d.Sync(), api.OK)
	checkStored(t, d, block(4), block(2))
	if d.Off() {
		t.Error("errors turn the power off")
	}
}

// P5.3: a power failure during a Write leaves its data in the cache, and one during a Sync stores nothing.
func TestFaultPower(t *testing.T) {
	for _, c := range []struct {
		name    string
		operate func(d *Disk) api.Errno
		dirty   []int
		cached  []byte
	}{
		{"Read", func(d *Disk) api.Errno { _, err := d.Read(1); return err }, []int{1}, block(3)},
		{"Write of another sector", func(d *Disk) api.Errno { return d.Write(0, block(5)) }, []int{0, 1}, block(3)},
		{"Write of the same sector", func(d *Disk) api.Errno { return d.Write(1, block(4)) }, []int{1}, block(4)},
		{"Sync", func(d *Disk) api.Errno { return d.Sync() }, []int{1}, block(3)},
	} {
		d := loaded(t, block(1), block(2))
		arm(t, d, api.Fault{At: 1, Kind: api.FaultPower}, api.Fault{At: 2, Kind: api.FaultError})
		check(t, "Write", d.Write(1, block(3)), api.OK)
		check(t, c.name, c.operate(d), api.ErrOff)
		if !d.Off() {
			t.Errorf("%s: the power is on", c.name)
		}
		check(t, "the operation behind "+c.name, c.operate(d), api.ErrOff)
		checkDirty(t, d, c.dirty...)
		checkStored(t, d, block(1), block(2))
		d.Restart([]api.Keep{{Sector: 1, Bytes: api.SectorSize}})
		checkContents(t, d, block(1), c.cached)
	}
	d := newDisk(t, 1)
	arm(t, d, api.Fault{At: 0, Kind: api.FaultPower})
	if b, err := d.Read(0); len(b) != 0 || err != api.ErrOff {
		t.Errorf("Read during a power failure returns %x, %d", b, err)
	}
}

// P5.3: of several faults for one operation, only the first one counts.
func TestFirstFaultCounts(t *testing.T) {
	fail, power := api.Fault{At: 0, Kind: api.FaultError}, api.Fault{At: 0, Kind: api.FaultPower}
	later := api.Fault{At: 9, Kind: api.FaultPower}
	d := newDisk(t, 1)
	arm(t, d, later, fail, power, power)
	checkOnlyFirstFails(t, d)
	arm(t, d, later, power, fail)
	check(t, "Sync", d.Sync(), api.ErrOff)
	if !d.Off() {
		t.Error("the power is on")
	}
}

// P5.3: all three operations are counted, and nothing else is.
func TestCount(t *testing.T) {
	d := newDisk(t, 3)
	for n := range 12 {
		arm(t, d, api.Fault{At: n, Kind: api.FaultError})
		for i := range 12 {
			d.Sectors()
			d.Image()
			d.Dirty()
			d.Off()
			var err api.Errno
			switch i % 3 {
			case 0:
				err = d.Write(i%2, block(byte(i)))
			case 1:
				_, err = d.Read(i % 2)
			case 2:
				err = d.Sync()
			}
			if (err == api.ErrIO) != (i == n) || err != api.OK && err != api.ErrIO {
				t.Errorf("with a fault at %d, the operation %d returns %d", n, i, err)
			}
		}
	}
}

// P5.4
func TestCut(t *testing.T) {
	d := loaded(t, block(1), block(2))
	check(t, "Write", d.Write(1, block(3)), api.OK)
	for range 2 {
		d.Cut()
		if !d.Off() || d.Sectors() != 2 {
			t.Errorf("after Cut, the power is off: %v, and there are %d sectors", d.Off(), d.Sectors())
		}
		checkDirty(t, d, 1)
		checkStored(t, d, block(1), block(2))
	}
	d.Restart(nil)
	if d.Off() {
		t.Error("after Restart, the power is off")
	}
	checkDirty(t, d)
	checkContents(t, d, block(1), block(2))
	checkStored(t, d, block(1), block(2))
}

// P5.4
func TestRestartKeepsBeginning(t *testing.T) {
	numbers := []int{math.MinInt, -1 << 32, -api.SectorSize, -1, api.SectorSize + 1, 256, 1 << 32, 1<<32 + 1, math.MaxInt}
	for n := range api.SectorSize + 1 {
		numbers = append(numbers, n)
	}
	for _, n := range numbers {
		for _, cut := range []bool{false, true} {
			d := loaded(t, block(1), block(2), block(3))
			check(t, "Write", d.Write(1, block(100)), api.OK)
			check(t, "Write", d.Write(2, block(150)), api.OK)
			check(t, "a second Write", d.Write(1, block(200)), api.OK)
			if cut {
				d.Cut()
			}
			d.Restart([]api.Keep{{Sector: 1, Bytes: n}})
			limited := max(0, min(n, api.SectorSize))
			checkDirty(t, d)
			checkStored(t, d, block(1), torn(limited, block(200), block(2)), block(3))
			checkContents(t, d, block(1), torn(limited, block(200), block(2)), block(3))
			if d.Off() {
				t.Error("after Restart, the power is off")
			}
		}
	}
}

// P5.4: elements for sectors that are not in the cache are ignored, and several elements for one add up.
func TestRestartElements(t *testing.T) {
	d := loaded(t, block(1), block(2), block(3), block(4))
	check(t, "Write", d.Write(0, block(11)), api.OK)
	check(t, "Sync", d.Sync(), api.OK)
	check(t, "Write", d.Write(1, block(12)), api.OK)
	check(t, "Write", d.Write(2, block(13)), api.OK)
	var keep []api.Keep
	for _, i := range []int{-1, 0, 3, 4, 5, 1 << 32, 1<<32 + 1, 1 << 58, math.MinInt, math.MaxInt} {
		keep = append(keep, api.Keep{Sector: i, Bytes: api.SectorSize})
	}
	keep = append(keep, api.Keep{Sector: 2, Bytes: 10}, api.Keep{Sector: 1, Bytes: 20}, api.Keep{Sector: 2, Bytes: 30}, api.Keep{Sector: 1, Bytes: 5}, api.Keep{Sector: 1, Bytes: -1})
	before := slices.Clone(keep)
	d.Restart(keep)
	checkStored(t, d, block(11), torn(20, block(12), block(2)), torn(30, block(13), block(3)), block(4))
	if !slices.Equal(keep, before) {
		t.Errorf("Restart changes its argument to %d", keep)
	}
	// The cache was emptied, so that a second one finds nothing.
	d.Restart([]api.Keep{{Sector: 1, Bytes: 64}, {Sector: 2, Bytes: 64}})
	checkStored(t, d, block(11), torn(20, block(12), block(2)), torn(30, block(13), block(3)), block(4))
}

// P5.4
func TestRestartDisarms(t *testing.T) {
	for _, cut := range []bool{false, true} {
		d := newDisk(t, 1)
		arm(t, d, api.Fault{At: 0, Kind: api.FaultError}, api.Fault{At: 1, Kind: api.FaultPower}, api.Fault{At: 3, Kind: api.FaultError})
		if cut {
			d.Cut()
			check(t, "Arm", d.Arm([]api.Fault{{At: 0, Kind: api.FaultError}, {At: 2, Kind: api.FaultPower}}), api.OK)
		}
		d.Restart(nil)
		for range 5 {
			check(t, "Sync", d.Sync(), api.OK)
		}
		d.Restart(nil)
		arm(t, d, api.Fault{At: 0, Kind: api.FaultError})
		checkOnlyFirstFails(t, d)
	}
}

// P5.5
func TestNilDisk(t *testing.T) {
	var d *Disk
	for range 2 {
		if d.Sectors() != 0 || len(d.Image()) != 0 || len(d.Dirty()) != 0 || !d.Off() {
			t.Error("a nil disk has sectors, a cache or power")
		}
		check(t, "Arm(nil)", d.Arm(nil), api.ErrInvalid)
		check(t, "Arm", d.Arm([]api.Fault{{At: 0, Kind: api.FaultError}}), api.ErrInvalid)
		check(t, "Arm", d.Arm(make([]api.Fault, 1)), api.ErrInvalid)
		for _, i := range []int{0, -1, 1, math.MinInt, math.MaxInt} {
			b, err := d.Read(i)
			if len(b) != 0 {
				t.Errorf("Read of a nil disk returns %x", b)
			}
			check(t, "Read", err, api.ErrOff)
			check(t, "Write", d.Write(i, block(1)), api.ErrOff)
			check(t, "Write", d.Write(i, nil), api.ErrOff)
		}
		check(t, "Sync", d.Sync(), api.ErrOff)
		d.Cut()
		d.Restart(nil)
		d.Restart([]api.Keep{{Sector: 0, Bytes: 1}, {Sector: -1, Bytes: 64}})
	}
}

// The examples of the chapter.
func TestExamples(t *testing.T) {
	x, y := block(10), block(90)
	d := newDisk(t, 1)
	check(t, "Write(0, x)", d.Write(0, x), api.OK)
	check(t, "Sync", d.Sync(), api.OK)
	check(t, "Write(0, y)", d.Write(0, y), api.OK)
	d.Restart([]api.Keep{{Sector: 0, Bytes: 10}})
	checkContents(t, d, torn(10, y, x))

	d = newDisk(t, 1)
	arm(t, d, api.Fault{At: 1, Kind: api.FaultPower})
	check(t, "Write(0, x)", d.Write(0, x), api.OK)
	check(t, "Sync", d.Sync(), api.ErrOff)
	checkStored(t, d, zeros(api.SectorSize))
	d.Restart([]api.Keep{{Sector: 0, Bytes: 64}})
	checkContents(t, d, x)
}

// The rule that arguments are neither modified nor kept.
func TestArgumentsAreCopied(t *testing.T) {
	image := make([]byte, 2*api.SectorSize, 3*api.SectorSize)
	copy(image, block(1))
	d, err := Load(image)
	check(t, "Load", err, api.OK)
	clear(image[:cap(image)])
	checkContents(t, d, block(1), zeros(api.SectorSize))

	whole := append(block(2), block(3)...)
	check(t, "Write", d.Write(1, whole[:api.SectorSize]), api.OK)
	if !bytes.Equal(whole, append(block(2), block(3)...)) {
		t.Errorf("Write changes its argument to %x", whole)
	}
	clear(whole)
	checkContents(t, d, block(1), block(2))
	check(t, "Sync", d.Sync(), api.OK)
	checkStored(t, d, block(1), block(2))
	// What was stored does not share memory with what was in the cache.
	check(t, "Write", d.Write(1, block(4)), api.OK)
	d.Restart(nil)
	checkContents(t, d, block(1), block(2))

	faults := []api.Fault{{At: 0, Kind: api.FaultError}, {At: 8, Kind: api.FaultPower}}
	arm(t, d, faults...)
	if !slices.Equal(faults, []api.Fault{{At: 0, Kind: api.FaultError}, {At: 8, Kind: api.FaultPower}}) {
		t.Errorf("Arm changes its argument to %d", faults)
	}
	faults[0], faults[1] = api.Fault{At: 9, Kind: api.FaultError}, api.Fault{At: 1, Kind: api.FaultPower}
	checkOnlyFirstFails(t, d)
}

// The rule that results are new memory, including their spare capacity.
func TestResultsAreCopied(t *testing.T) {
	d := loaded(t, block(1), block(2), block(3))
	check(t, "Write", d.Write(1, block(4)), api.OK)
	check(t, "Write", d.Write(2, block(5)), api.OK)
	for range 2 {
		stored, _ := d.Read(0)
		clear(stored[:cap(stored)])
		cached, _ := d.Read(1)
		clear(cached[:cap(cached)])
		image := d.Image()
		clear(image[:cap(image)])
		dirty := d.Dirty()
		clear(dirty[:cap(dirty)])
		checkContents(t, d, block(1), block(4), block(5))
		checkStored(t, d, block(1), block(2), block(3))
		checkDirty(t, d, 1, 2)
	}
}

// Disks do not share anything.
func TestDisksAreSeparate(t *testing.T) {
	a, b := newDisk(t, 2), newDisk(t, 2)
	check(t, "Write", a.Write(0, block(1)), api.OK)
	arm(t, a, api.Fault{At: 1, Kind: api.FaultPower})
	check(t, "Sync", a.Sync(), api.OK)
	check(t, "Sync", a.Sync(), api.ErrOff)
	check(t, "Sync", b.Sync(), api.OK)
	check(t, "Sync", b.Sync(), api.OK)
	checkDirty(t, b)
	checkContents(t, b, zeros(api.SectorSize), zeros(api.SectorSize))
}

// A history is a second disk, which keeps the writes since the last Sync that succeeded,
// and computes everything else from them.
type history struct {
	stored [][]byte
	writes []write
	faults []api.Fault
	next   int // the number of the next operation
	off    bool
}

// A write is the content that was written to a sector.
type write struct {
	sector int
	data   []byte
}

// last returns what was written last to the sector i since the last Sync, or nil.
func (h *history) last(i int) []byte {
	for _, w := range slices.Backward(h.writes) {
		if w.sector == i {
			return w.data
		}
	}
	return nil
}

// dirty returns the sectors in the cache.
func (h *history) dirty() []int {
	var sectors []int
	for i := range h.stored {
		if h.last(i) != nil {
			sectors = append(sectors, i)
		}
	}
	return sectors
}

// fault returns the errors of an operation: the one that it returns, and whether it has its effect.
func (h *history) fault(inRange bool) (api.Errno, bool) {
	if h.off {
		return api.ErrOff, false
	}
	if !inRange {
		return api.ErrRange, false
	}
	h.next++
	i := slices.IndexFunc(h.faults, func(f api.Fault) bool { return f.At == h.next-1 })
	switch {
	case i < 0:
		return api.OK, true
	case h.faults[i].Kind == api.FaultError:
		return api.ErrIO, false
	}
	h.off = true
	return api.ErrOff, true
}

// restart applies each element of keep to each sector.
func (h *history) restart(keep []api.Keep) {
	for _, k := range keep {
		for i := range h.stored {
			if data := h.last(i); i == k.Sector && data != nil {
				h.stored[i] = torn(max(0, min(k.Bytes, api.SectorSize)), data, h.stored[i])
			}
		}
	}
	*h = history{stored: h.stored}
}

// randomFaults returns a few faults, most of them valid, for the next operations.
func randomFaults(r *rand.Rand) []api.Fault {
	var faults []api.Fault
	for range r.Intn(4) {
		faults = append(faults, api.Fault{At: r.Intn(21) - 1, Kind: r.Intn(40)/19 + 1})
	}
	return faults
}

// randomKeep returns elements for a Restart of a disk with n sectors.
func randomKeep(r *rand.Rand, n int) []api.Keep {
	var keep []api.Keep
	for range r.Intn(2 * n) {
		keep = append(keep, api.Keep{Sector: r.Intn(n+2) - 1, Bytes: r.Intn(api.SectorSize+20) - 10})
	}
	return keep
}

// step makes one call to the disk and to the history, and compares their results.
func step(t *testing.T, r *rand.Rand, d *Disk, h *history) {
	t.Helper()
	n := len(h.stored)
	i := r.Intn(n+2) - 1
	inRange := 0 <= i && i < n
	switch call := r.Intn(40); {
	case call < 14:
		data := block(byte(r.Intn(256)))[:api.SectorSize-r.Intn(20)/19]
		want, effect := h.fault(inRange && len(data) == api.SectorSize)
		check(t, "Write", d.Write(i, data), want)
		if effect {
			h.writes = append(h.writes, write{i, data})
		}
	case call < 26:
		want, _ := h.fault(inRange)
		got, err := d.Read(i)
		check(t, "Read", err, want)
		if want != api.OK && len(got) != 0 {
			t.Errorf("Read returns %x with an error", got)
		}
	case call < 32:
		want, _ := h.fault(true)
		check(t, "Sync", d.Sync(), want)
		if want == api.OK {
			for _, w := range h.writes {
				h.stored[w.sector] = w.data
			}
			h.writes = nil
		}
	case call < 35:
		faults := randomFaults(r)
		if slices.ContainsFunc(faults, func(f api.Fault) bool { return f.At < 0 || f.Kind > 2 }) {
			check(t, "Arm", d.Arm(faults), api.ErrInvalid)
			break
		}
		check(t, "Arm", d.Arm(faults), api.OK)
		h.faults, h.next = faults, 0
	case call < 36:
		d.Cut()
		h.off = true
	case call < 37 || h.off:
		keep := randomKeep(r, n)
		d.Restart(keep)
		h.restart(keep)
	}
}

// compare compares the disk with the history: what it has stored, its cache, and its power.
func compare(t *testing.T, d *Disk, h *history) {
	t.Helper()
	checkStored(t, d, h.stored...)
	checkDirty(t, d, h.dirty()...)
	if d.Off() != h.off || d.Sectors() != len(h.stored) {
		t.Errorf("the power is off: %v, want %v; there are %d sectors", d.Off(), h.off, d.Sectors())
	}
	for i := range h.stored {
		want := h.last(i)
		if want == nil {
			want = h.stored[i]
		}
		errno, _ := h.fault(true)
		if got, err := d.Read(i); err != errno || err == api.OK && !bytes.Equal(got, want) {
			t.Errorf("sector %d contains %x, error %d, want %x, error %d", i, got, err, want, errno)
		}
	}
}

// P5.1 to P5.4
func TestManyCalls(t *testing.T) {
	for seed := range 300 {
		r := rand.New(rand.NewSource(int64(seed)))
		n := 1 + r.Intn(5)
		d := newDisk(t, n)
		h := &history{stored: slices.Repeat([][]byte{zeros(api.SectorSize)}, n)}
		for range 200 {
			step(t, r, d, h)
			if r.Intn(10) == 0 {
				compare(t, d, h)
			}
			if t.Failed() {
				t.Fatalf("with the seed %d", seed)
			}
		}
	}
}
