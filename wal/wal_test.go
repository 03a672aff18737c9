package wal

import (
	"bytes"
	"encoding/binary"
	"hash/crc32"
	"math"
	"math/rand"
	"slices"
	"testing"

	"hstsstore/api"
	"hstsstore/sector"
)

const (
	size   = api.SectorSize
	header = 14 // bytes of a frame besides its payload
	epoch  = uint32(0x01020304)
)

// place is an extent of four sectors, with sectors of each disk before and behind it.
var place = api.Extent{First: 2, Count: 4}

// bytesOf is the number of bytes of place.
const bytesOf = 4 * size

// pattern returns n bytes, none of which is 0, that differ with the seed.
func pattern(n, seed int) []byte {
	b := make([]byte, n)
	for i := range b {
		b[i] = byte((i*7+i/251*13+seed*31)%255 + 1)
	}
	return b
}

// framed returns a frame as chapter 7 describes it.
func framed(epoch, seq uint32, payload []byte) []byte {
	b := binary.LittleEndian.AppendUint16(nil, uint16(len(payload)))
	b = binary.LittleEndian.AppendUint32(b, epoch)
	b = binary.LittleEndian.AppendUint32(b, seq)
	b = append(b, payload...)
	return binary.LittleEndian.AppendUint32(b, crc32.ChecksumIEEE(b))
}

// sequence returns the frames of these payloads, with the sequence numbers from 0 on.
func sequence(epoch uint32, payloads ...[]byte) []byte {
	var b []byte
	for i, p := range payloads {
		b = append(b, framed(epoch, uint32(i), p)...)
	}
	return b
}

// three returns payloads whose frames have 24, 14 and 84 bytes: they end in the first two
// sectors, before, behind and across the border.
func three() [][]byte {
	return [][]byte{pattern(10, 1), nil, pattern(70, 2)}
}

// image returns the contents of a disk of seven sectors, on which place contains b and
// then zeros.
func image(b []byte) []byte {
	all := pattern(7*size, 9)
	clear(all[place.First*size:][:bytesOf])
	copy(all[place.First*size:][:bytesOf], b)
	return all
}

// loaded returns a disk with these stored contents.
func loaded(t *testing.T, image []byte) *sector.Disk {
	t.Helper()
	d, err := sector.Load(image)
	check(t, "Load", err, api.OK)
	return d
}

// check fails the test if the error of a call is not the one that is wanted.
func check(t *testing.T, call string, err, want api.Errno) {
	t.Helper()
	if err != want {
		t.Errorf("%s returns the error %d, want %d", call, err, want)
	}
}

// arm arms faults, without an error.
func arm(t *testing.T, d *sector.Disk, faults ...api.Fault) {
	t.Helper()
	check(t, "Arm", d.Arm(faults), api.OK)
}

// checkOperations calls f, which is to perform n operations without an error of the disk.
func checkOperations(t *testing.T, d *sector.Disk, n int, f func()) {
	t.Helper()
	arm(t, d, api.Fault{At: n, Kind: api.FaultError})
	f()
	check(t, "the operation behind the call", d.Sync(), api.ErrIO)
	arm(t, d)
}

// keepAll stores all contents of the cache by a power failure in which they survive.
func keepAll(d *sector.Disk) {
	var keep []api.Keep
	for _, i := range d.Dirty() {
		keep = append(keep, api.Keep{Sector: i, Bytes: size})
	}
	d.Restart(keep)
}

// checkImage compares the stored contents of all sectors.
func checkImage(t *testing.T, d *sector.Disk, want []byte) {
	t.Helper()
	if got := d.Image(); !bytes.Equal(got, want) {
		t.Errorf("the disk contains\n%x, want\n%x", got, want)
	}
}

// A summary is what the methods without an effect return for a log.
type summary struct {
	records, synced, free int
	failed                bool
}

// checkLog compares what the methods without an effect return.
func checkLog(t *testing.T, l *Log, want summary) {
	t.Helper()
	if got := (summary{l.Records(), l.Synced(), l.Free(), l.Failed()}); got != want {
		t.Errorf("the log has %v, want %v", got, want)
	}
}

// opened opens the log of place and compares its payloads. All of them are synchronized.
func opened(t *testing.T, d *sector.Disk, want ...[]byte) *Log {
	t.Helper()
	l, got, err := Open(d, place, epoch)
	if err != api.OK || l == nil || !slices.EqualFunc(got, want, bytes.Equal) {
		t.Fatalf("Open returns %x, error %d, want %x", got, err, want)
	}
	checkLog(t, l, summary{len(want), len(want), bytesOf - len(sequence(epoch, want...)), false})
	return l
}

// add appends records without an error.
func add(t *testing.T, l *Log, payloads ...[]byte) {
	t.Helper()
	for _, p := range payloads {
		check(t, "Append", l.Append(p), api.OK)
	}
}

// checkNoLog compares what a call of Open returns that does not succeed.
func checkNoLog(t *testing.T, d *sector.Disk, e api.Extent, want api.Errno) {
	t.Helper()
	if l, payloads, err := Open(d, e, epoch); l != nil || len(payloads) != 0 || err != want {
		t.Errorf("Open of %d returns a log: %v, payloads %x, error %d, want %d", e, l != nil, payloads, err, want)
	}
}

// checkReadOnly checks that a log has failed, also for payloads with another error, and
// that its calls perform no operations.
func checkReadOnly(t *testing.T, d *sector.Disk, l *Log) {
	t.Helper()
	d.Restart(nil)
	checkOperations(t, d, 0, func() {
		for _, n := range []int{0, 1, 50, bytesOf, api.MaxPayload, api.MaxPayload + 1} {
			check(t, "Append to a log that has failed", l.Append(pattern(n, 3)), api.ErrReadOnly)
		}
		check(t, "Sync of a log that has failed", l.Sync(), api.ErrReadOnly)
	})
}

// junk returns bytes that are not the frame of this sequence number: what may lie behind
// the end of a log.
func junk(next uint32) [][]byte {
	damaged := framed(epoch, next, pattern(5, 4))
	damaged[12] ^= 1
	return [][]byte{
		{1}, {0, 0, 0, 1}, pattern(13, 5), pattern(14, 5), damaged,
		framed(epoch, next+1, []byte("x")), framed(epoch, next-1, []byte("x")),
		framed(epoch+1, next, []byte("x")), framed(epoch-1, next, nil), framed(epoch^1<<31, next, nil),
		slices.Concat([]byte{0}, framed(epoch, next, nil)), framed(epoch, next, []byte("x"))[:14],
		slices.Concat(framed(epoch+1, next, nil), framed(epoch, next+1, nil), framed(epoch, next, nil)),
	}
}

// P8.1 and P8.3: the frames are found where the chapter puts them, and stay.
func TestOpen(t *testing.T) {
	for n := range 4 {
		want := three()[:n]
		before := image(sequence(epoch, want...))
		d := loaded(t, before)
		checkOperations(t, d, place.Count+1, func() { opened(t, d, want...) })
		checkImage(t, d, before)
	}
}

// P8.1: extents at both ends of the disk, of one sector and of all of them.
func TestOpenOfExtents(t *testing.T) {
	const sectors = 9
	for first := range sectors {
		for count := 1; first+count <= sectors; count++ {
			e := api.Extent{First: first, Count: count}
			before := pattern(sectors*size, 8)
			clear(before[first*size:][:count*size])
			copy(before[first*size:], framed(epoch, 0, []byte("record")))
			d := loaded(t, before)
			l, got, err := Open(d, e, epoch)
			if err != api.OK || len(got) != 1 || string(got[0]) != "record" {
				t.Fatalf("Open of %d returns %q, error %d", e, got, err)
			}
			checkLog(t, l, summary{1, 1, count*size - 20, false})
			checkImage(t, d, before)
			end := count*size - 20 - header
			check(t, "Append", l.Append(pattern(min(end, api.MaxPayload), 7)), api.OK)
			check(t, "Sync", l.Sync(), api.OK)
			copy(before[first*size+20:], framed(epoch, 1, pattern(min(end, api.MaxPayload), 7)))
			checkImage(t, d, before)
		}
	}
}

// P8.1: the log is of all the bytes of the extent, and of no other ones.
func TestOpenOfFullExtent(t *testing.T) {
	whole := pattern(bytesOf-header, 6)
	d := loaded(t, image(framed(epoch, 0, whole)))
	checkOperations(t, d, place.Count+1, func() { opened(t, d, whole) })
	checkImage(t, d, image(framed(epoch, 0, whole)))
	// The frame ends behind the extent.
	before := image(nil)
	copy(before[place.First*size:], framed(epoch, 0, pattern(bytesOf-header+1, 6)))
	d = loaded(t, before)
	opened(t, d)
	clear(before[place.First*size:][:bytesOf])
	checkImage(t, d, before)
}

// P8.1: what lies behind the end is overwritten with zeros, and stored.
func TestOpenErases(t *testing.T) {
	for n := range 4 {
		want := three()[:n]
		log := sequence(epoch, want...)
		for _, tail := range junk(uint32(n)) {
			for gap := range 3 {
				d := loaded(t, image(slices.Concat(log, make([]byte, gap*50), tail)))
				opened(t, d, want...)
				checkImage(t, d, image(log))
			}
		}
	}
}

// P8.1: a log of other epochs is empty, and none of its frames is left.
func TestOpenOfOtherEpoch(t *testing.T) {
	for _, other := range []uint32{0, 1, epoch + 1, epoch - 1, epoch ^ 1<<31, math.MaxUint32} {
		d := loaded(t, image(sequence(other, three()...)))
		opened(t, d)
		checkImage(t, d, image(nil))
		if _, got, err := Open(d, place, other); err != api.OK || len(got) != 0 {
			t.Errorf("after Open with another epoch there are the records %x, error %d", got, err)
		}
	}
}

// operationsOfOpen returns the number of operations of an Open that finds a log with this
// end, and bytes that are not zero behind it.
func operationsOfOpen(end int) int {
	writes := place.Count - end/size
	if end%size != 0 {
		writes++ // the first sector is read before
	}
	return place.Count + writes + 1
}

// P8.1: one byte that is not zero, anywhere behind the end, is enough; all bytes from the
// end of the log on are overwritten then, and no other ones.
func TestOpenErasesEachByte(t *testing.T) {
	for n := range 4 {
		want := three()[:n]
		log := sequence(epoch, want...)
		for k := len(log); k < bytesOf; k++ {
			for _, value := range []byte{1, 0x80, 0xFF} {
				before := image(log)
				before[place.First*size+k] = value
				d := loaded(t, before)
				checkOperations(t, d, operationsOfOpen(len(log)), func() { opened(t, d, want...) })
				checkImage(t, d, image(log))
			}
		}
	}
}

// P8.1: the bytes in the cache count, and what was found in it is stored.
func TestOpenSyncs(t *testing.T) {
	d := loaded(t, image(sequence(epoch, three()...)))
	l := opened(t, d, three()...)
	add(t, l, []byte("in the cache"))
	want := append(three(), []byte("in the cache"))
	if len(d.Dirty()) == 0 {
		t.Error("Append stores a record before Sync")
	}
	checkOperations(t, d, place.Count+1, func() { opened(t, d, want...) })
	checkImage(t, d, image(sequence(epoch, want...)))
	d.Restart(nil)
	opened(t, d, want...)
}

// P8.1: stored bytes that are zeros in the cache are erased by the Sync.
func TestOpenStoresZerosOfTheCache(t *testing.T) {
	before := image(nil)
	before[(place.First+1)*size] = 7
	d := loaded(t, before)
	check(t, "Disk.Write", d.Write(place.First+1, make([]byte, size)), api.OK)
	checkOperations(t, d, place.Count+1, func() { opened(t, d) })
	checkImage(t, d, image(nil))
}

// P8.1: the first error of any operation, with no operation behind it.
func TestOpenFails(t *testing.T) {
	log := sequence(epoch, three()...)
	for _, tail := range [][]byte{nil, {0, 1}, framed(epoch, 4, pattern(20, 3))} {
		n := place.Count + 1
		if tail != nil {
			n = operationsOfOpen(len(log))
		}
		for at := range n {
			for kind, want := range map[int]api.Errno{api.FaultError: api.ErrIO, api.FaultPower: api.ErrOff} {
				d := loaded(t, image(slices.Concat(log, tail)))
				arm(t, d, api.Fault{At: at, Kind: kind}, api.Fault{At: at + 1, Kind: api.FaultError})
				checkNoLog(t, d, place, want)
				if kind == api.FaultError {
					check(t, "the operation behind the error", d.Sync(), api.ErrIO)
				}
				d.Restart(nil)
				checkImage(t, d, image(slices.Concat(log, tail)))
				opened(t, d, three()...)
				checkImage(t, d, image(log))
			}
		}
		d := loaded(t, image(slices.Concat(log, tail)))
		checkOperations(t, d, n, func() { opened(t, d, three()...) })
	}
}

// P8.1: extents that are not valid, and disks without power. The sums of some numbers,
// modulo 2^64, are in the range.
func TestOpenOfInvalidExtents(t *testing.T) {
	invalid := []api.Extent{
		{First: 0, Count: 0}, {First: 2, Count: 0}, {First: 7, Count: 0}, {First: 0, Count: -1}, {First: -1, Count: 1}, {First: -1, Count: 4},
		{First: 0, Count: 8}, {First: 6, Count: 2}, {First: 7, Count: 1}, {First: 0, Count: api.MaxSectors}, {First: 0, Count: api.MaxSectors + 1},
		{First: math.MaxInt, Count: 1}, {First: 1, Count: math.MaxInt}, {First: math.MinInt, Count: math.MinInt}, {First: 0, Count: 1 << 58}, {First: 0, Count: 1<<58 + 1},
	}
	before := image([]byte{1})
	d := loaded(t, before)
	checkOperations(t, d, 0, func() {
		for _, e := range invalid {
			checkNoLog(t, d, e, api.ErrInvalid)
		}
	})
	d.Cut()
	for _, e := range invalid {
		checkNoLog(t, d, e, api.ErrInvalid)
	}
	checkNoLog(t, d, place, api.ErrOff)
	checkNoLog(t, nil, place, api.ErrInvalid)
	checkNoLog(t, nil, api.Extent{}, api.ErrInvalid)
	checkImage(t, d, before)
}

// P8.2 and P8.3: the frames lie one behind the other, in the cache until Sync.
func TestAppend(t *testing.T) {
	d := loaded(t, image(nil))
	l := opened(t, d)
	var all [][]byte
	for i, n := range []int{0, 1, 10, 50, 0, 64, 3} {
		all = append(all, pattern(n, i))
		add(t, l, all[i])
		free := bytesOf - len(sequence(epoch, all...))
		checkLog(t, l, summary{i + 1, 0, free, false})
		if i == 3 {
			checkImage(t, d, image(nil))
		}
	}
	checkOperations(t, d, 1, func() { check(t, "Sync", l.Sync(), api.OK) })
	checkLog(t, l, summary{7, 7, bytesOf - len(sequence(epoch, all...)), false})
	checkImage(t, d, image(sequence(epoch, all...)))
	opened(t, d, all...)
}

// P8.2 and P8.3: groups of records, after an Open that found some.
func TestAppendAndSync(t *testing.T) {
	d := loaded(t, image(sequence(epoch, three()...)))
	l := opened(t, d, three()...)
	free := bytesOf - len(sequence(epoch, three()...))
	check(t, "Sync", l.Sync(), api.OK)
	checkLog(t, l, summary{3, 3, free, false})
	add(t, l, []byte("a"), []byte("bc"))
	checkLog(t, l, summary{5, 3, free - 15 - 16, false})
	check(t, "Sync", l.Sync(), api.OK)
	checkLog(t, l, summary{5, 5, free - 15 - 16, false})
	add(t, l, []byte("def"))
	checkLog(t, l, summary{6, 5, free - 15 - 16 - 17, false})
	want := append(three(), []byte("a"), []byte("bc"))
	checkImage(t, d, image(sequence(epoch, want...)))
	d.Restart(nil)
	opened(t, d, want...)
}

// P8.2: payloads of all lengths, behind a record that shares its sector with them.
func TestAppendOfAllLengths(t *testing.T) {
	e := api.Extent{First: 1, Count: 18}
	for n := range api.MaxPayload + 1 {
		d, err := sector.New(20)
		check(t, "New", err, api.OK)
		l, _, err := Open(d, e, epoch)
		check(t, "Open", err, api.OK)
		payload := pattern(n, n)
		add(t, l, []byte("first"), payload)
		checkLog(t, l, summary{2, 0, 18*size - 19 - header - n, false})
		check(t, "Sync", l.Sync(), api.OK)
		want := make([]byte, 20*size)
		copy(want[size:], sequence(epoch, []byte("first"), payload))
		checkImage(t, d, want)
	}
}

// P8.2: sequence numbers of more than one byte, and all epochs.
func TestAppendOfManyRecords(t *testing.T) {
	for _, ep := range []uint32{0, 1, 255, 1 << 16, 1 << 31, math.MaxUint32} {
		d, err := sector.New(80)
		check(t, "New", err, api.OK)
		e := api.Extent{First: 0, Count: 80}
		l, _, err := Open(d, e, ep)
		check(t, "Open", err, api.OK)
		const n = 80 * size / header
		add(t, l, make([][]byte, n)...)
		check(t, "Append to a full log", l.Append(nil), api.ErrFull)
		checkLog(t, l, summary{n, 0, 80*size - n*header, false})
		check(t, "Sync", l.Sync(), api.OK)
		want := make([]byte, 80*size)
		copy(want, sequence(ep, make([][]byte, n)...))
		checkImage(t, d, want)
		if _, got, err := Open(d, e, ep); err != api.OK || len(got) != n {
			t.Errorf("Open with the epoch %d returns %d records, error %d", ep, len(got), err)
		}
	}
}

// P8.2: a record fits exactly, or not at all; then nothing happens.
func TestAppendToFullLog(t *testing.T) {
	for n := range bytesOf - 2*header + 1 {
		d := loaded(t, image(nil))
		l := opened(t, d)
		add(t, l, pattern(n, 1))
		free := bytesOf - header - n
		checkOperations(t, d, 0, func() {
			check(t, "Append of one byte too many", l.Append(pattern(free-header+1, 2)), api.ErrFull)
			check(t, "Append of the longest payload", l.Append(pattern(api.MaxPayload, 2)), api.ErrFull)
		})
		checkLog(t, l, summary{1, 0, free, false})
		add(t, l, pattern(free-header, 2))
		checkLog(t, l, summary{2, 0, 0, false})
		check(t, "Append to a log without space", l.Append(nil), api.ErrFull)
		checkLog(t, l, summary{2, 0, 0, false})
		opened(t, d, pattern(n, 1), pattern(free-header, 2))
		checkImage(t, d, image(sequence(epoch, pattern(n, 1), pattern(free-header, 2))))
	}
}

// P8.2: the frame of no payload does not fit into the last bytes.
func TestAppendToLastBytes(t *testing.T) {
	for free := range header {
		d := loaded(t, image(nil))
		l := opened(t, d)
		add(t, l, pattern(bytesOf-header-free, 1))
		checkOperations(t, d, 0, func() { check(t, "Append", l.Append(nil), api.ErrFull) })
		checkLog(t, l, summary{1, 0, free, false})
		check(t, "Sync after ErrFull", l.Sync(), api.OK)
		checkLog(t, l, summary{1, 1, free, false})
	}
}

// P8.2: the example of the chapter.
func TestExample(t *testing.T) {
	d, err := sector.New(2)
	check(t, "New", err, api.OK)
	l, _, err := Open(d, api.Extent{First: 0, Count: 2}, 1)
	check(t, "Open", err, api.OK)
	add(t, l, pattern(40, 1), pattern(40, 2))
	check(t, "Append of a third record", l.Append(pattern(40, 3)), api.ErrFull)
	checkLog(t, l, summary{2, 0, 20, false})
}

// P8.2: payloads beyond the limit, also if they do not fit either.
func TestAppendOfTooLongPayload(t *testing.T) {
	for _, count := range []int{4, 20} {
		d, err := sector.New(20)
		check(t, "New", err, api.OK)
		l, _, err := Open(d, api.Extent{First: 0, Count: count}, epoch)
		check(t, "Open", err, api.OK)
		checkOperations(t, d, 0, func() {
			for _, n := range []int{api.MaxPayload + 1, api.MaxPayload + 2, 1 << 16, 1<<16 + 1, 1 << 20} {
				check(t, "Append of a payload beyond the limit", l.Append(make([]byte, n)), api.ErrLimit)
			}
		})
		checkLog(t, l, summary{0, 0, count * size, false})
		// The log still works.
		add(t, l, []byte("x"))
		check(t, "Sync", l.Sync(), api.OK)
		checkLog(t, l, summary{1, 1, count*size - 15, false})
	}
}

// operationsOfAppend returns the number of operations that write a frame of n bytes at end.
func operationsOfAppend(end, n int) int {
	operations := 0
	for i := end / size; i*size < end+n; i++ {
		if i*size < end || (i+1)*size > end+n {
			operations++
		}
		operations++
	}
	return operations
}

// P8.2 and P8.3: each operation of Append can fail. The record does not belong to the log,
// which accepts nothing from then on.
func TestAppendFails(t *testing.T) {
	first := pattern(10, 1)
	for _, n := range []int{0, 25, 26, 27, 90, 153, 154, 155, 200} {
		operations := operationsOfAppend(24, header+n)
		for at := range operations {
			for kind, want := range map[int]api.Errno{api.FaultError: api.ErrIO, api.FaultPower: api.ErrOff} {
				d := loaded(t, image(nil))
				l := opened(t, d)
				add(t, l, first)
				check(t, "Sync", l.Sync(), api.OK)
				arm(t, d, api.Fault{At: at, Kind: kind}, api.Fault{At: at + 1, Kind: api.FaultError})
				check(t, "Append with a fault", l.Append(pattern(n, 2)), want)
				checkLog(t, l, summary{1, 1, bytesOf - 24, true})
				if kind == api.FaultError {
					check(t, "the operation behind the error", d.Sync(), api.ErrIO)
				}
				checkReadOnly(t, d, l)
				checkLog(t, l, summary{1, 1, bytesOf - 24, true})
				checkImage(t, d, image(framed(epoch, 0, first)))
				opened(t, d, first)
			}
		}
		d := loaded(t, image(framed(epoch, 0, first)))
		l := opened(t, d, first)
		checkOperations(t, d, operations, func() { add(t, l, pattern(n, 2)) })
	}
}

// P8.2: a record whose Append failed in its last operation may be found by Open all the same.
func TestFailedAppendIsFound(t *testing.T) {
	d := loaded(t, image(nil))
	l := opened(t, d)
	arm(t, d, api.Fault{At: 1, Kind: api.FaultPower})
	check(t, "Append during a power failure", l.Append([]byte("x")), api.ErrOff)
	keepAll(d)
	opened(t, d, []byte("x"))
	checkLog(t, l, summary{0, 0, bytesOf, true})
}

// P8.2 and P8.3: Sync can fail, with an error, a power failure during it, or without power.
func TestSyncFails(t *testing.T) {
	for i, want := range []api.Errno{api.ErrIO, api.ErrOff, api.ErrOff} {
		d := loaded(t, image(nil))
		l := opened(t, d)
		add(t, l, []byte("a"))
		check(t, "Sync", l.Sync(), api.OK)
		add(t, l, []byte("b"), []byte("c"))
		switch i {
		case 0:
			arm(t, d, api.Fault{At: 0, Kind: api.FaultError})
		case 1:
			arm(t, d, api.Fault{At: 0, Kind: api.FaultPower})
		case 2:
			d.Cut()
		}
		check(t, "Sync with a fault", l.Sync(), want)
		checkLog(t, l, summary{3, 1, bytesOf - 45, true})
		checkReadOnly(t, d, l)
		checkLog(t, l, summary{3, 1, bytesOf - 45, true})
		opened(t, d, []byte("a"))
	}
}

// P8.2: after a failed Sync without a power failure, the records are still in the cache.
func TestOpenAfterFailedSync(t *testing.T) {
	d := loaded(t, image(nil))
	l := opened(t, d)
	add(t, l, []byte("a"), []byte("b"))
	arm(t, d, api.Fault{At: 0, Kind: api.FaultError})
	check(t, "Sync with a fault", l.Sync(), api.ErrIO)
	again := opened(t, d, []byte("a"), []byte("b"))
	checkImage(t, d, image(sequence(epoch, []byte("a"), []byte("b"))))
	add(t, again, []byte("c"))
	check(t, "Sync", again.Sync(), api.OK)
	opened(t, d, []byte("a"), []byte("b"), []byte("c"))
	check(t, "Append to the log that has failed", l.Append(nil), api.ErrReadOnly)
}

// P8.2: the power is off before the call.
func TestAppendWithoutPower(t *testing.T) {
	d := loaded(t, image(nil))
	l := opened(t, d)
	d.Cut()
	check(t, "Append beyond the limit, without power", l.Append(pattern(api.MaxPayload+1, 1)), api.ErrLimit)
	check(t, "Append of what does not fit, without power", l.Append(pattern(bytesOf, 1)), api.ErrFull)
	checkLog(t, l, summary{0, 0, bytesOf, false})
	check(t, "Append without power", l.Append(nil), api.ErrOff)
	checkLog(t, l, summary{0, 0, bytesOf, true})
	checkReadOnly(t, d, l)
}

// P8.3: asking performs no operations, and a log may be empty.
func TestMethodsWithoutEffect(t *testing.T) {
	d := loaded(t, image(nil))
	l := opened(t, d)
	checkOperations(t, d, 0, func() { checkLog(t, l, summary{0, 0, bytesOf, false}) })
	checkOperations(t, d, 1, func() { check(t, "Sync of an empty log", l.Sync(), api.OK) })
	checkLog(t, l, summary{0, 0, bytesOf, false})
	d.Cut()
	checkLog(t, l, summary{0, 0, bytesOf, false})
}

// P8.4
func TestNil(t *testing.T) {
	var l *Log
	checkLog(t, l, summary{0, 0, 0, true})
	for _, n := range []int{0, 1, api.MaxPayload, api.MaxPayload + 1} {
		check(t, "Append to a nil log", l.Append(pattern(n, 1)), api.ErrReadOnly)
	}
	check(t, "Append to a nil log", l.Append(nil), api.ErrReadOnly)
	check(t, "Sync of a nil log", l.Sync(), api.ErrReadOnly)
	checkLog(t, l, summary{0, 0, 0, true})
}

// The logs of two extents of a disk have nothing in common but its cache.
func TestTwoLogs(t *testing.T) {
	d, err := sector.New(8)
	check(t, "New", err, api.OK)
	ea, eb := api.Extent{First: 0, Count: 4}, api.Extent{First: 4, Count: 4}
	a, _, _ := Open(d, ea, 1)
	b, _, _ := Open(d, eb, 2)
	add(t, a, []byte("a0"), []byte("a1"))
	add(t, b, []byte("b0"))
	check(t, "Sync", b.Sync(), api.OK)
	checkLog(t, a, summary{2, 0, 4*size - 32, false})
	checkLog(t, b, summary{1, 1, 4*size - 16, false})
	arm(t, d, api.Fault{At: 0, Kind: api.FaultError})
	check(t, "Append with a fault", a.Append(nil), api.ErrIO)
	add(t, b, []byte("b1"))
	check(t, "Sync", b.Sync(), api.OK)
	want := make([]byte, 8*size)
	copy(want, sequence(1, []byte("a0"), []byte("a1")))
	copy(want[4*size:], sequence(2, []byte("b0"), []byte("b1")))
	checkImage(t, d, want)
}

// Rule 2: payloads are not changed, and neither they nor results are kept.
func TestArgumentsAndResultsAreCopied(t *testing.T) {
	d := loaded(t, image(nil))
	l := opened(t, d)
	whole := pattern(100, 1)
	add(t, l, whole[10:40], whole[50:60])
	if !bytes.Equal(whole, pattern(100, 1)) {
		t.Error("Append changes its argument, or what is beside it")
	}
	clear(whole)
	check(t, "Sync", l.Sync(), api.OK)
	want := [][]byte{pattern(100, 1)[10:40], pattern(100, 1)[50:60]}
	checkImage(t, d, image(sequence(epoch, want...)))
	_, got, _ := Open(d, place, epoch)
	clear(got[0][:cap(got[0])])
	if !bytes.Equal(got[1], want[1]) {
		t.Error("the payloads of one Open share memory")
	}
	opened(t, d, want...)
}

// The consequences of the chapter: a record is lost before one of the same length that
// survives, and which is not part of the log again when the gap is filled.
func TestSeparatedFrameStaysAway(t *testing.T) {
	d := loaded(t, image(nil))
	l := opened(t, d)
	add(t, l, pattern(size-header, 1))
	check(t, "Sync", l.Sync(), api.OK)
	add(t, l, pattern(size-header, 2), pattern(size-header, 3))
	d.Restart([]api.Keep{{Sector: place.First + 2, Bytes: size}})
	l = opened(t, d, pattern(size-header, 1))
	add(t, l, pattern(size-header, 4))
	check(t, "Sync", l.Sync(), api.OK)
	opened(t, d, pattern(size-header, 1), pattern(size-header, 4))
}

// The consequences of the chapter: the power fails behind an Append, and all beginnings of
// all its sectors survive.
func TestTornAppend(t *testing.T) {
	first, second := pattern(30, 1), pattern(80, 2)
	log := sequence(epoch, first, second)
	for a := range size + 1 {
		for b := range size + 1 {
			for c := 0; c <= size; c += 2 {
				d := loaded(t, image(framed(epoch, 0, first)))
				l := opened(t, d, first)
				add(t, l, second)
				d.Restart([]api.Keep{{Sector: place.First, Bytes: a}, {Sector: place.First + 1, Bytes: b}, {Sector: place.First + 2, Bytes: c}})
				want := [][]byte{first}
				if a == size && b == size && c >= len(log)-2*size {
					want = append(want, second)
				}
				opened(t, d, want...)
				checkImage(t, d, image(sequence(epoch, want...)))
			}
		}
	}
}

// A run is a log that is used, with power failures, beside what may be found of it.
type run struct {
	t      *testing.T
	r      *rand.Rand
	d      *sector.Disk
	l      *Log
	all    [][]byte // the records that were appended, and the one that was being appended
	synced int      // how many of them must be found
}

// crash lets the power fail; some sectors survive, completely or partly.
func (r *run) crash() {
	var keep []api.Keep
	for _, i := range r.d.Dirty() {
		switch r.r.Intn(4) {
		case 0:
			keep = append(keep, api.Keep{Sector: i, Bytes: size})
		case 1:
			keep = append(keep, api.Keep{Sector: i, Bytes: r.r.Intn(size + 1)})
		}
	}
	r.d.Restart(keep)
}

// maybeFault arms a fault for one of the next n operations, or none.
func (r *run) maybeFault(n int) {
	r.d.Arm(nil)
	if r.r.Intn(2) == 0 {
		arm(r.t, r.d, api.Fault{At: r.r.Intn(n), Kind: 1 + r.r.Intn(2)})
	}
}

// reopen opens the log, at last without a fault, and compares what it finds.
func (r *run) reopen() {
	r.t.Helper()
	for range 3 {
		r.maybeFault(12)
		l, got, err := Open(r.d, place, epoch)
		if err == api.OK {
			r.found(l, got)
			return
		}
		r.crash()
	}
	r.d.Arm(nil)
	l, got, err := Open(r.d, place, epoch)
	check(r.t, "Open", err, api.OK)
	r.found(l, got)
}

// found compares the records of an Open that succeeded.
func (r *run) found(l *Log, got [][]byte) {
	r.t.Helper()
	n := len(got)
	if n < r.synced || n > len(r.all) || !slices.EqualFunc(got, r.all[:n], bytes.Equal) {
		r.t.Fatalf("Open finds %d records, of %d with %d synchronized:\n%x, want a beginning of\n%x", n, len(r.all), r.synced, got, r.all)
	}
	r.l, r.all, r.synced = l, r.all[:n:n], n
	checkLog(r.t, l, summary{n, n, bytesOf - len(sequence(epoch, got...)), false})
}

// step appends or synchronizes, and opens the log again when it has failed.
func (r *run) step() {
	r.t.Helper()
	if r.r.Intn(3) == 0 {
		if r.l.Sync() == api.OK {
			r.synced = len(r.all)
		}
	} else {
		payload := pattern(r.r.Intn(60), r.r.Intn(255))
		if err := r.l.Append(payload); err != api.ErrFull {
			r.all = append(r.all, payload)
		}
	}
	if r.l.Failed() || r.r.Intn(10) == 0 {
		// The log of a disk whose power is on may be opened with what is in the cache.
		if r.d.Off() || r.r.Intn(2) == 0 {
			r.crash()
		}
		r.reopen()
	}
}

// The consequences of the chapter, with errors and several power failures at any operation.
func TestPowerFailures(t *testing.T) {
	for seed := range 2000 {
		r := &run{t: t, r: rand.New(rand.NewSource(int64(seed))), d: loaded(t, image(nil))}
		if seed%4 == 0 {
			r.d = loaded(t, image(pattern(bytesOf, seed)))
		}
		r.reopen()
		for range 40 {
			r.maybeFault(8)
			r.step()
		}
	}
}
