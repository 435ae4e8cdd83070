package journal_test

import (
	"bytes"
	"encoding/binary"
	"hash/crc32"
	"math"
	"slices"
	"strconv"
	"testing"

	"hamper/api"
	"hamper/disk"
	"hamper/journal"
)

// all are the octets of a sector, which are c.
func all(c byte) []byte { return bytes.Repeat([]byte{c}, api.Sector) }

// mixed are octets of a sector of which none follows simply from the one before it.
func mixed(seed int) []byte {
	out, v := make([]byte, api.Sector), uint64(seed)+1
	for i := range out {
		v = v*6364136223846793005 + 1442695040888963407
		out[i] = byte(v >> 56)
	}
	return out
}

func newDisk(t *testing.T, n int) *disk.Disk {
	t.Helper()
	d, e := disk.New(n)
	if e != api.OK || d == nil {
		t.Fatalf("New(%d): %d", n, e)
	}
	return d
}

// lay writes octets into a sector, and flushes them.
func lay(t *testing.T, d *disk.Disk, i int, b []byte) {
	t.Helper()
	if e := d.Write(i, b); e != api.OK {
		t.Fatalf("Write(%d): %d", i, e)
	}
	if e := d.Flush(); e != api.OK {
		t.Fatalf("Flush: %d", e)
	}
}

// used is a formatted disk of n sectors; each sector but the first has octets of its own.
func used(t *testing.T, n int) *disk.Disk {
	t.Helper()
	d := newDisk(t, n)
	for i := range n {
		d.Write(i, mixed(1000+i))
	}
	lay(t, d, 0, all(0))
	return d
}

func mustHas(t *testing.T, d *disk.Disk, i int) []byte {
	t.Helper()
	b, e := d.Has(i)
	if e != api.OK || len(b) != api.Sector {
		t.Fatalf("Has(%d): %d octets, %d", i, len(b), e)
	}
	return b
}

// wantHas holds that a sector itself has the octets b.
func wantHas(t *testing.T, d *disk.Disk, i int, b []byte) {
	t.Helper()
	if got := mustHas(t, d, i); !bytes.Equal(got, b) {
		t.Errorf("sector %d: %v; want %v", i, got, b)
	}
}

func mustCommit(t *testing.T, d *disk.Disk, l []api.Put) {
	t.Helper()
	if e := journal.Commit(d, l); e != api.OK {
		t.Fatalf("Commit: %d", e)
	}
}

func wantRecover(t *testing.T, d *disk.Disk, k int) {
	t.Helper()
	if got, e := journal.Recover(d); got != k || e != api.OK {
		t.Errorf("Recover: %d, %d; want %d, OK", got, e, k)
	}
}

// puts is a transaction of those sectors, each with octets of its own.
func puts(at ...int) []api.Put {
	out := make([]api.Put, len(at))
	for k, i := range at {
		out[k] = api.Put{At: i, B: mixed(k)}
	}
	return out
}

// run is a transaction of n sectors, from the sector first on.
func run(first, n int) []api.Put {
	at := make([]int, n)
	for k := range at {
		at[k] = first + k
	}
	return puts(at...)
}

func cloned(l []api.Put) []api.Put {
	out := slices.Clone(l)
	for k := range out {
		out[k].B = slices.Clone(out[k].B)
	}
	return out
}

func samePuts(l, m []api.Put) bool {
	return slices.EqualFunc(l, m, func(p, q api.Put) bool { return p.At == q.At && bytes.Equal(p.B, q.B) })
}

// A forged head is one that is put together from its parts, whatever they are.
type forged struct {
	mark   string
	count  int
	sum    uint32
	places []int
	more   []byte // stands behind the places, and is sealed too
	unseal uint32 // is what its own checksum is changed by
	rest   []byte // stands behind the checksum
}

// honest are the parts of a transaction's head.
func honest(l []api.Put) forged {
	f := forged{mark: "\x74\x6e\x6c\x6a", count: len(l)}
	var contents []byte
	for _, p := range l {
		contents = append(contents, p.B...)
		f.places = append(f.places, p.At)
	}
	f.sum = crc32.ChecksumIEEE(contents)
	return f
}

// sector is a forged head as it stands in a sector.
func (f forged) sector() []byte {
	b := []byte(f.mark)
	b = binary.LittleEndian.AppendUint16(b, uint16(f.count))
	b = binary.LittleEndian.AppendUint32(b, f.sum)
	for _, i := range f.places {
		b = binary.LittleEndian.AppendUint16(b, uint16(i))
	}
	b = append(b, f.more...)
	b = binary.LittleEndian.AppendUint32(b, crc32.ChecksumIEEE(b)^f.unseal)
	b = append(b, f.rest...)
	return append(b, make([]byte, api.Sector-len(b))...)
}

// op is a write, or a flush, whose At is below 0.
type op = api.Put

var flush = op{At: -1}

// The steps as the chapter tells them.

func formatOps() []op { return []op{{At: 0, B: all(0)}, flush} }

func commitOps(l []api.Put) []op {
	var out []op
	for k, p := range l {
		out = append(out, op{At: 1 + k, B: p.B})
	}
	out = append(out, flush, op{At: 0, B: honest(l).sector()}, flush)
	return append(out, recoverOps(l)...)
}

func recoverOps(l []api.Put) []op {
	out := append(slices.Clone(l), flush)
	return append(out, formatOps()...)
}

// play does steps up to the first that fails.
func play(d *disk.Disk, l []op) api.Errno {
	for _, p := range l {
		e := api.OK
		if p.At < 0 {
			e = d.Flush()
		} else {
			e = d.Write(p.At, p.B)
		}
		if e != api.OK {
			return e
		}
	}
	return api.OK
}

// state is all that a disk shows: its sectors, what waits, the power, and how many writes are done yet (up to many).
type state struct {
	sectors []byte
	waits   []int
	kept    []byte // the sectors if all that waits is kept
	power   bool
	left    int
}

const many = 60

func sectorsOf(d *disk.Disk) []byte {
	out := make([]byte, 0, d.Size()*api.Sector)
	for i := range d.Size() {
		b, _ := d.Has(i)
		out = append(out, b...)
	}
	return out
}

func stateOf(d *disk.Disk) state {
	s := state{sectors: sectorsOf(d), waits: d.Waits(), power: d.Power()}
	kept := d.Clone()
	kept.Cut(slices.Repeat([]bool{true}, len(s.waits)))
	s.kept = sectorsOf(kept)
	left := d.Clone()
	for s.left < many && left.Flush() == api.OK {
		s.left++
	}
	return s
}

func (s state) same(o state) bool {
	return bytes.Equal(s.sectors, o.sectors) && slices.Equal(s.waits, o.waits) && bytes.Equal(s.kept, o.kept) && s.power == o.power && s.left == o.left
}

// wantSame holds that nothing tells a disk from another one.
func wantSame(t *testing.T, d, o *disk.Disk, what string) {
	t.Helper()
	got, want := stateOf(d), stateOf(o)
	if !got.same(want) {
		t.Errorf("%s: the disk is another one: waits %v, power %t, %d writes left; want %v, %t, %d, and the same sectors", what, got.waits, got.power, got.left, want.waits, want.power, want.left)
	}
}

// wantSteps holds that a call does just the steps l on a disk like d, on every budget and without power, and that it answers OK where they all are done.
func wantSteps(t *testing.T, d *disk.Disk, l []op, what string, call func(d *disk.Disk) api.Errno) {
	t.Helper()
	for n := -1; n <= len(l)+2; n++ {
		got, want := d.Clone(), d.Clone()
		got.Budget(n)
		want.Budget(n)
		e, asked := call(got), play(want, l)
		if e != asked || (e == api.OK) != (n < 0 || n >= len(l)) {
			t.Errorf("%s on a budget of %d: %d; want %d", what, n, e, asked)
		}
		wantSame(t, got, want, what)
		if t.Failed() {
			t.Fatalf("%s: on a budget of %d", what, n)
		}
	}
	off := d.Clone()
	off.Cut(nil)
	before := off.Clone()
	if e := call(off); e != api.ErrPower {
		t.Errorf("%s without power: %d", what, e)
	}
	wantSame(t, off, before, what+" without power")
}

// wantRefused holds that a call answers ErrArg, with the power on or off, on any budget, and changes nothing.
func wantRefused(t *testing.T, d *disk.Disk, what string, call func(d *disk.Disk) api.Errno) {
	t.Helper()
	for n := -2; n <= 2; n++ {
		got := d.Clone()
		got.Budget(max(n, -1))
		if n == -2 {
			got.Cut(nil)
		} else {
			got.Write(got.Size()-1, all(9))
			got.Budget(n)
		}
		before := got.Clone()
		if e := call(got); e != api.ErrArg {
			t.Errorf("%s on a budget of %d: %d; want ErrArg", what, n, e)
		}
		wantSame(t, got, before, what)
	}
}

// smallSizes are those of disks that have no home area.
func smallSizes() []int { return []int{1, 2, 3, 40, 41} }

// P4.1: Format.

func TestFormat(t *testing.T) {
	for _, n := range []int{42, 43, 81, 82, 2048} {
		d := newDisk(t, n)
		for i := range n {
			d.Write(i, mixed(i))
		}
		d.Flush()
		wantSteps(t, d, formatOps(), "Format", journal.Format)
		if e := journal.Format(d); e != api.OK {
			t.Fatalf("Format of %d sectors: %d", n, e)
		}
		wantHas(t, d, 0, all(0))
		for i := 1; i < n; i++ {
			wantHas(t, d, i, mixed(i))
		}
		wantRecover(t, d, 0)
	}
}

func TestFormatSmall(t *testing.T) {
	for _, n := range smallSizes() {
		d := newDisk(t, n)
		lay(t, d, 0, mixed(0))
		wantRefused(t, d, "Format", journal.Format)
	}
}

// What waited before is flushed with the empty head, and a head that waits is overwritten.
func TestFormatOfPending(t *testing.T) {
	d := used(t, 43)
	d.Write(0, honest(puts(41)).sector())
	d.Write(42, all(5))
	wantSteps(t, d, formatOps(), "Format", journal.Format)
	if e := journal.Format(d); e != api.OK {
		t.Fatalf("Format: %d", e)
	}
	wantHas(t, d, 0, all(0))
	wantHas(t, d, 42, all(5))
}

// A format is the end of what was begun.
func TestFormatOfBegun(t *testing.T) {
	d, l := used(t, 43), puts(41, 42)
	d.Budget(5)
	if e := journal.Commit(d, l); e != api.ErrPower {
		t.Fatalf("Commit on a budget of 5: %d", e)
	}
	d.On()
	if e := journal.Format(d); e != api.OK {
		t.Fatalf("Format: %d", e)
	}
	wantRecover(t, d, 0)
	wantHas(t, d, 41, mixed(1041))
	wantHas(t, d, 42, mixed(1042))
}

// P4.1: Head.

// The octets of a head, one by one.
func TestHeadOctets(t *testing.T) {
	l := []api.Put{{At: 0x0102, B: all(7)}, {At: 0x29, B: mixed(0)}}
	h, e := journal.Head(l)
	if e != api.OK || len(h) != api.Sector {
		t.Fatalf("Head: %d octets, %d", len(h), e)
	}
	if want := "\x74\x6e\x6c\x6a\x02\x00"; string(h[:6]) != want {
		t.Errorf("the mark and the number of puts: %x", h[:6])
	}
	if sum := crc32.ChecksumIEEE(slices.Concat(all(7), mixed(0))); binary.LittleEndian.Uint32(h[6:]) != sum {
		t.Errorf("the checksum of the contents: %x; want %x", h[6:10], sum)
	}
	if want := "\x02\x01\x29\x00"; string(h[10:14]) != want {
		t.Errorf("the places: %x", h[10:14])
	}
	if sum := crc32.ChecksumIEEE(h[:14]); binary.LittleEndian.Uint32(h[14:]) != sum {
		t.Errorf("the checksum of the head: %x; want %x", h[14:18], sum)
	}
	if !bytes.Equal(h[18:], make([]byte, api.Sector-18)) {
		t.Errorf("the rest: %x", h[18:])
	}
}

func wantHead(t *testing.T, l []api.Put) {
	t.Helper()
	before := cloned(l)
	h, e := journal.Head(l)
	if e != api.OK || !bytes.Equal(h, honest(l).sector()) {
		t.Errorf("Head of %d puts: %x, %d; want %x", len(l), h, e, honest(l).sector())
	}
	if !samePuts(l, before) {
		t.Errorf("Head of %d puts changed its argument", len(l))
	}
}

func TestHead(t *testing.T) {
	for n := 1; n <= api.MaxPuts; n++ {
		wantHead(t, run(41, n))
		wantHead(t, run(api.MaxSectors-n, n))
	}
	wantHead(t, puts(41))
	wantHead(t, puts(2047))
	wantHead(t, puts(2047, 41, 255, 256, 257, 511, 512))
	wantHead(t, []api.Put{{At: 41, B: all(0)}})
	wantHead(t, []api.Put{{At: 41, B: all(0)}, {At: 42, B: all(0)}})
	wantHead(t, []api.Put{{At: 42, B: all(0xff)}, {At: 41, B: all(0xff)}})
}

// The order of the puts is that of the head, and their contents come to its checksum in that order.
func TestHeadInOrder(t *testing.T) {
	l := puts(41, 42)
	slices.Reverse(l)
	wantHead(t, l)
	l[0].At, l[1].At = l[1].At, l[0].At
	wantHead(t, l)
}

// wrongPuts are transactions that are not valid for a disk of size sectors.
func wrongPuts(size int) map[string][]api.Put {
	last := size - 1
	out := map[string][]api.Put{
		"no list":                   nil,
		"no puts":                   {},
		"41 puts":                   run(41, 41),
		"42 puts":                   run(41, 42),
		"1000 puts":                 run(41, 1000),
		"41 puts of one sector":     slices.Repeat(puts(41), 41),
		"twice in a row":            puts(41, 41),
		"twice, the last":           puts(last, last),
		"twice, with the same":      slices.Repeat(puts(41), 2),
		"no octets":                 {{At: 41}},
		"one octet too few, last":   {{At: last, B: all(1)[1:]}},
		"one too few of two":        append(puts(41), api.Put{At: 42, B: all(1)[1:]}),
		"one too few, one too many": {{At: 41, B: all(1)[1:]}, {At: 42, B: append(all(1), 1)}},
	}
	if size > 43 {
		out["twice, apart"] = puts(41, 42, 43, 41)
		out["twice at the end of many"] = append(run(41, min(39, size-41)), puts(41)...)
	}
	for _, i := range []int{40, 39, 1, 0, -1, -41, math.MinInt, math.MinInt + 41, size, size + 1, 65535, 65536, 65536 + 41, 1<<32 + 41, math.MaxInt} {
		out["a sector that may not be: "+strconv.Itoa(i)] = puts(i)
		out["one behind another: "+strconv.Itoa(i)] = puts(41, i)
		out["one ahead of another: "+strconv.Itoa(i)] = puts(i, 41)
	}
	for _, n := range []int{0, 1, 126, 127, 129, 130, 255, 256, 384} {
		out["octets: "+strconv.Itoa(n)] = []api.Put{{At: 41, B: bytes.Repeat([]byte{1}, n)}}
		out["octets of the second: "+strconv.Itoa(n)] = []api.Put{{At: 42, B: all(1)}, {At: 41, B: bytes.Repeat([]byte{1}, n)}}
	}
	return out
}

func TestHeadWrong(t *testing.T) {
	for what, l := range wrongPuts(api.MaxSectors) {
		before := cloned(l)
		if h, e := journal.Head(l); e != api.ErrArg || len(h) != 0 {
			t.Errorf("Head, %s: %d octets, %d; want ErrArg", what, len(h), e)
		}
		if !samePuts(l, before) {
			t.Errorf("Head, %s: the argument has changed", what)
		}
	}
}

// A B may have more memory behind it; what is beyond its octets does not count.
func TestHeadOfPieces(t *testing.T) {
	whole := append(mixed(1), mixed(2)...)
	wantHead(t, []api.Put{{At: 41, B: whole[:api.Sector]}, {At: 42, B: whole[64 : 64+api.Sector]}})
	if _, e := journal.Head([]api.Put{{At: 41, B: whole[:127]}}); e != api.ErrArg {
		t.Errorf("Head of 127 octets of 256: %d", e)
	}
}

func TestHeadIsNewMemory(t *testing.T) {
	l := puts(41, 42)
	a, _ := journal.Head(l)
	b, _ := journal.Head(l)
	clear(a)
	clear(a[:cap(a)])
	if !bytes.Equal(b, honest(l).sector()) || !samePuts(l, puts(41, 42)) {
		t.Error("heads share memory, with each other or with the puts")
	}
}

// P4.2: Commit.

func TestCommitExample(t *testing.T) {
	d := newDisk(t, 43)
	if e := journal.Format(d); e != api.OK {
		t.Fatalf("Format: %d", e)
	}
	mustCommit(t, d, []api.Put{{At: 41, B: all(7)}, {At: 42, B: all(8)}})
	wantHas(t, d, 41, all(7))
	wantHas(t, d, 42, all(8))
	for i, c := range []byte{7, 8} {
		if b, e := d.Read(41 + i); e != api.OK || !bytes.Equal(b, all(c)) {
			t.Errorf("Read(%d): %v, %d", 41+i, b, e)
		}
	}
	if e := journal.Commit(d, []api.Put{{At: 40, B: all(1)}}); e != api.ErrArg {
		t.Errorf("Commit with At 40: %d", e)
	}
}

// ordinary are transactions that a disk of size sectors, at least 82, may have.
func ordinary(size int) [][]api.Put {
	return [][]api.Put{
		puts(41),
		puts(size - 1),
		puts(41, 42),
		puts(42, 41),
		puts(size-1, 41, 60),
		puts(size-1, size-2, size-3, size-4),
		run(41, 39),
		run(41, 40),
		run(size-40, 40),
		{{At: 41, B: all(0)}},
		{{At: 41, B: all(0xff)}, {At: 42, B: all(0)}, {At: 43, B: all(0xff)}},
	}
}

// Each step, in its order, and nothing beside them.
func TestCommitSteps(t *testing.T) {
	for _, size := range []int{82, 100, 300} {
		for _, l := range ordinary(size) {
			wantSteps(t, used(t, size), commitOps(l), "Commit", func(d *disk.Disk) api.Errno { return journal.Commit(d, l) })
		}
	}
	for _, l := range [][]api.Put{puts(41), {{At: 41, B: all(0)}}} {
		wantSteps(t, used(t, 42), commitOps(l), "Commit", func(d *disk.Disk) api.Errno { return journal.Commit(d, l) })
	}
	l := run(2008, 40)
	wantSteps(t, used(t, 2048), commitOps(l), "Commit", func(d *disk.Disk) api.Errno { return journal.Commit(d, l) })
}

// What a commit leaves: its sectors in the home area, the empty head, and all others as they were.
func TestCommitLeaves(t *testing.T) {
	for _, l := range ordinary(100) {
		d, before := used(t, 100), cloned(l)
		mustCommit(t, d, l)
		if !samePuts(l, before) {
			t.Error("Commit changed its argument")
		}
		wantHas(t, d, 0, all(0))
		want := map[int][]byte{}
		for k, p := range l {
			wantHas(t, d, 1+k, p.B)
			want[p.At] = p.B
		}
		for i := 1 + len(l); i < 100; i++ {
			b, ok := want[i]
			if !ok {
				b = mixed(1000 + i)
			}
			wantHas(t, d, i, b)
		}
		wantRecover(t, d, 0)
	}
}

func TestCommitWrong(t *testing.T) {
	for _, size := range []int{43, 44, 100, 2048} {
		for what, l := range wrongPuts(size) {
			before := cloned(l)
			wantRefused(t, used(t, size), "Commit, "+what, func(d *disk.Disk) api.Errno { return journal.Commit(d, l) })
			if !samePuts(l, before) {
				t.Errorf("Commit, %s: the argument has changed", what)
			}
		}
	}
}

// A sector that a greater disk has is not one of this disk: Head takes it, Commit does not.
func TestCommitBeyondDisk(t *testing.T) {
	for size := 42; size <= 90; size += 6 {
		for _, l := range [][]api.Put{puts(size), puts(41, size), puts(2047)} {
			if _, e := journal.Head(l); e != api.OK {
				t.Errorf("Head: %d", e)
			}
			wantRefused(t, used(t, size), "Commit", func(d *disk.Disk) api.Errno { return journal.Commit(d, l) })
		}
	}
}

func TestCommitSmall(t *testing.T) {
	for _, n := range smallSizes() {
		d := newDisk(t, n)
		lay(t, d, 0, mixed(0))
		for _, l := range [][]api.Put{nil, puts(0), puts(40), puts(41), puts(n), puts(n - 1)} {
			wantRefused(t, d, "Commit", func(d *disk.Disk) api.Errno { return journal.Commit(d, l) })
		}
	}
}

// A disk of 42 sectors has one sector in its home area.
func TestCommitSmallest(t *testing.T) {
	d := used(t, 42)
	mustCommit(t, d, puts(41))
	wantHas(t, d, 41, mixed(0))
	for _, l := range [][]api.Put{puts(42), puts(41, 42), puts(41, 41), puts(40)} {
		wantRefused(t, d, "Commit", func(d *disk.Disk) api.Errno { return journal.Commit(d, l) })
	}
}

// What waits stays what it was when the caller changes the octets that were to be committed.
func TestCommitKeepsNoArgument(t *testing.T) {
	for n := range 11 {
		l := puts(41, 42)
		d, want := used(t, 43), used(t, 43)
		d.Budget(n)
		want.Budget(n)
		journal.Commit(d, l)
		play(want, commitOps(puts(41, 42)))
		clear(l[0].B)
		clear(l[1].B)
		clear(l)
		wantSame(t, d, want, "Commit")
	}
}

// One after another: what the journal has of earlier ones does not matter.
func TestCommitAgain(t *testing.T) {
	d := used(t, 90)
	want := map[int][]byte{}
	for k, l := range append(ordinary(90), ordinary(90)...) {
		for j := range l {
			l[j].B = mixed(100*k + j)
			want[l[j].At] = l[j].B
		}
		mustCommit(t, d, l)
		for i, b := range want {
			wantHas(t, d, i, b)
		}
	}
}

// P4.3: Recover.

func recovered(d *disk.Disk) api.Errno {
	_, e := journal.Recover(d)
	return e
}

// begun is a used disk of n sectors with a transaction whose head has been flushed.
func begun(t *testing.T, n int, l []api.Put) *disk.Disk {
	t.Helper()
	d := used(t, n)
	d.Budget(len(l) + 3)
	if e := journal.Commit(d, l); e != api.ErrPower {
		t.Fatalf("Commit on a budget of %d: %d", len(l)+3, e)
	}
	d.Cut(nil)
	d.On()
	return d
}

// forge is a used disk of n sectors whose journal has the contents of l, and whose first sector is b.
func forge(t *testing.T, n int, l []api.Put, b []byte) *disk.Disk {
	t.Helper()
	d := used(t, n)
	for k, p := range l {
		if 1+k < n {
			lay(t, d, 1+k, p.B)
		}
	}
	lay(t, d, 0, b)
	return d
}

func TestRecoverExample(t *testing.T) {
	l := []api.Put{{At: 41, B: all(7)}, {At: 42, B: all(8)}}
	for _, keep := range [][]bool{{true}, nil} {
		d := newDisk(t, 43)
		journal.Format(d)
		d.Budget(4)
		if e := journal.Commit(d, l); e != api.ErrPower {
			t.Fatalf("Commit on a budget of 4: %d", e)
		}
		d.Cut(keep)
		d.On()
		if keep == nil {
			wantRecover(t, d, 0)
			wantHas(t, d, 41, all(0))
			wantHas(t, d, 42, all(0))
		} else {
			wantRecover(t, d, 2)
			wantHas(t, d, 41, all(7))
			wantHas(t, d, 42, all(8))
		}
	}
}

// A transaction is written; each step in its order, and nothing beside them.
func TestRecoverSteps(t *testing.T) {
	for _, size := range []int{82, 300} {
		for _, l := range ordinary(size) {
			d := begun(t, size, l)
			wantSteps(t, d, recoverOps(l), "Recover", recovered)
			wantRecover(t, d, len(l))
			for _, p := range l {
				wantHas(t, d, p.At, p.B)
			}
			wantHas(t, d, 0, all(0))
			before := d.Clone()
			wantRecover(t, d, 0)
			wantSame(t, d, before, "Recover again")
		}
	}
	wantSteps(t, begun(t, 42, puts(41)), recoverOps(puts(41)), "Recover", recovered)
	l := run(2008, 40)
	wantSteps(t, begun(t, 2048, l), recoverOps(l), "Recover", recovered)
}

// Beside an error no number is told.
func TestRecoverTellsNothing(t *testing.T) {
	l := puts(41, 42, 43)
	for n := range len(recoverOps(l)) {
		d := begun(t, 44, l)
		d.Budget(n)
		if k, e := journal.Recover(d); k != 0 || e != api.ErrPower {
			t.Errorf("Recover on a budget of %d: %d, %d", n, k, e)
		}
	}
	d := begun(t, 44, l)
	d.Cut(nil)
	if k, e := journal.Recover(d); k != 0 || e != api.ErrPower {
		t.Errorf("Recover without power: %d, %d", k, e)
	}
}

// The empty head: nothing is written, and nothing is flushed.
func TestRecoverEmpty(t *testing.T) {
	for _, size := range []int{42, 43, 100} {
		d := used(t, size)
		d.Write(41, all(3))
		for n := -1; n < 3; n++ {
			c := d.Clone()
			c.Budget(n)
			before := c.Clone()
			wantRecover(t, c, 0)
			wantSame(t, c, before, "Recover of the empty head")
		}
		d.Cut(nil)
		if k, e := journal.Recover(d); k != 0 || e != api.ErrPower {
			t.Errorf("Recover of the empty head without power: %d, %d", k, e)
		}
	}
	fresh := newDisk(t, 42)
	wantRecover(t, fresh, 0)
}

func TestRecoverSmall(t *testing.T) {
	for _, n := range smallSizes() {
		for _, b := range [][]byte{all(0), mixed(0), honest(puts(41)).sector(), honest(puts(n - 1)).sector()} {
			d := newDisk(t, n)
			lay(t, d, 0, b)
			wantRefused(t, d, "Recover", recovered)
			if k, e := journal.Recover(d); k != 0 || e != api.ErrArg {
				t.Errorf("Recover of %d sectors: %d, %d", n, k, e)
			}
		}
	}
}

// wantNoHead holds that a disk's first sector is not taken for a head: it becomes the empty one, and nothing else changes.
func wantNoHead(t *testing.T, d *disk.Disk, what string) {
	t.Helper()
	wantSteps(t, d, formatOps(), "Recover, "+what, recovered)
	want := d.Clone()
	play(want, formatOps())
	if k, e := journal.Recover(d); k != 0 || e != api.OK {
		t.Errorf("Recover, %s: %d, %d; want 0, OK", what, k, e)
	}
	wantSame(t, d, want, "Recover, "+what)
	wantRecover(t, d, 0)
	wantSame(t, d, want, "Recover again, "+what)
}

// A forged head that is honest is taken: so it is the forgery alone for which the others are not.
func TestRecoverForged(t *testing.T) {
	l := puts(43, 41)
	d := forge(t, 44, l, honest(l).sector())
	wantRecover(t, d, 2)
	wantHas(t, d, 43, l[0].B)
	wantHas(t, d, 41, l[1].B)
	wantHas(t, d, 42, mixed(1042))
}

func TestRecoverNoHead(t *testing.T) {
	l := puts(43, 41, 42)
	for what, change := range map[string]func(f *forged){
		"another mark":                func(f *forged) { f.mark = "tnlk" },
		"the mark the other way":      func(f *forged) { f.mark = "jlnt" },
		"no mark":                     func(f *forged) { f.mark = "" },
		"the mark twice":              func(f *forged) { f.mark = "tnljtnlj" },
		"a put fewer":                 func(f *forged) { f.count-- },
		"a put more":                  func(f *forged) { f.count++ },
		"no puts, but places":         func(f *forged) { f.count = 0 },
		"no puts":                     func(f *forged) { f.count, f.places, f.sum = 0, nil, 0 },
		"no puts, their sum":          func(f *forged) { f.count, f.places = 0, nil },
		"the most that can be told":   func(f *forged) { f.count = 65535 },
		"a count of 256 more":         func(f *forged) { f.count += 256 },
		"a sum of one more":           func(f *forged) { f.sum++ },
		"a sum of one bit":            func(f *forged) { f.sum ^= 1 << 31 },
		"no sum":                      func(f *forged) { f.sum = 0 },
		"the sum the other way":       func(f *forged) { f.sum = f.sum<<24 | f.sum<<8&0xff0000 | f.sum>>8&0xff00 | f.sum>>24 },
		"its own sum of one more":     func(f *forged) { f.unseal = 1 },
		"its own sum inverted":        func(f *forged) { f.unseal = math.MaxUint32 },
		"a sector below home":         func(f *forged) { f.places[0] = 40 },
		"a sector of the journal":     func(f *forged) { f.places[2] = 1 },
		"the head itself":             func(f *forged) { f.places[1] = 0 },
		"a sector behind the last":    func(f *forged) { f.places[0] = 44 },
		"one of a greater disk":       func(f *forged) { f.places[2] = 2047 },
		"one of no disk":              func(f *forged) { f.places[1] = 2048 },
		"the greatest that is told":   func(f *forged) { f.places[1] = 65535 },
		"a sector twice":              func(f *forged) { f.places[2] = 43 },
		"the same sector always":      func(f *forged) { f.places = []int{41, 41, 41} },
		"an octet behind the places":  func(f *forged) { f.more = []byte{0} },
		"zeros that are sealed":       func(f *forged) { f.more = make([]byte, 108) },
		"a rest of one octet":         func(f *forged) { f.rest = []byte{1} },
		"a rest of another head":      func(f *forged) { f.rest = []byte("tnlj") },
		"a rest at the very end":      func(f *forged) { f.rest = append(make([]byte, 107), 1) },
		"a rest in the midst":         func(f *forged) { f.rest = append(make([]byte, 50), 0x80) },
		"two sums, one behind other":  func(f *forged) { f.rest = binary.LittleEndian.AppendUint32(nil, f.sum) },
		"a count of the other order":  func(f *forged) { f.count = 3 << 8 },
		"places of the other order":   func(f *forged) { f.places[0] = 43 << 8 },
		"one place, and a count of 3": func(f *forged) { f.places = f.places[:1] },
	} {
		f := honest(l)
		change(&f)
		wantNoHead(t, forge(t, 44, l, f.sector()), what)
	}
}

// Heads of the right form, of too many puts: there is no 41st sector in the journal, but a sector stands there.
func TestRecoverTooMany(t *testing.T) {
	for _, n := range []int{41, 42, 50, 57} {
		l := run(50, n)
		wantNoHead(t, forge(t, 200, l, honest(l).sector()), "too many puts")
	}
	l := run(50, 40)
	d := forge(t, 200, l, honest(l).sector())
	wantRecover(t, d, 40)
}

// A head that is right for a greater disk: the same one is taken there.
func TestRecoverByDisk(t *testing.T) {
	for _, l := range [][]api.Put{puts(99), puts(41, 99), puts(99, 41, 42)} {
		b := honest(l).sector()
		wantNoHead(t, forge(t, 99, l, b), "a sector that this disk does not have")
		wantNoHead(t, forge(t, 42, l, b), "a sector that a disk of 42 does not have")
		wantRecover(t, forge(t, 100, l, b), len(l))
	}
}

// Any octets at all.
func TestRecoverAnything(t *testing.T) {
	for seed := range 50 {
		wantNoHead(t, forge(t, 43, nil, mixed(seed)), "octets")
	}
	for _, c := range []byte{1, 2, 0x6a, 0x74, 0x7f, 0x80, 0xff} {
		wantNoHead(t, forge(t, 43, nil, all(c)), "an octet throughout")
	}
	for i := range api.Sector {
		b := all(0)
		b[i] = 1
		wantNoHead(t, forge(t, 43, nil, b), "the empty head but for an octet")
	}
	wantNoHead(t, forge(t, 43, nil, append([]byte("tnlj"), all(0)[4:]...)), "the mark alone")
	wantNoHead(t, forge(t, 43, nil, append([]byte("tnlj\x01"), all(0)[5:]...)), "the mark and a number")
}

// A head in which a bit is another one.
func TestRecoverBits(t *testing.T) {
	l := puts(41, 43)
	for i := range api.Sector {
		for bit := range 8 {
			b := honest(l).sector()
			b[i] ^= 1 << bit
			d := forge(t, 44, l, b)
			want := d.Clone()
			play(want, formatOps())
			wantRecover(t, d, 0)
			if !bytes.Equal(sectorsOf(d), sectorsOf(want)) {
				t.Fatalf("octet %d, bit %d: the head is taken", i, bit)
			}
		}
	}
}

// Contents in which an octet is another one, or whose order is.
func TestRecoverOtherContents(t *testing.T) {
	l := puts(41, 43)
	for i := range 2 * api.Sector {
		c := cloned(l)
		c[i/api.Sector].B[i%api.Sector] ^= 0x10
		wantNoHead(t, forge(t, 44, c, honest(l).sector()), "other contents")
	}
	c := cloned(l)
	c[0].B, c[1].B = c[1].B, c[0].B
	wantNoHead(t, forge(t, 44, c, honest(l).sector()), "contents of another order")
	// Of the sectors behind them nothing is asked.
	d := forge(t, 44, append(cloned(l), puts(42)...), honest(l).sector())
	wantRecover(t, d, 2)
}

// What is read counts, also if it waits yet.
func TestRecoverOfPending(t *testing.T) {
	l := puts(41, 43)
	d := used(t, 44)
	for k, p := range l {
		d.Write(1+k, p.B)
	}
	d.Write(0, honest(l).sector())
	wantSteps(t, d, recoverOps(l), "Recover of what waits", recovered)
	wantRecover(t, d, 2)

	d = begun(t, 44, l)
	d.Write(0, all(0))
	before := d.Clone()
	wantRecover(t, d, 0)
	wantSame(t, d, before, "Recover of an empty head that waits")
}

// P4.4: all or nothing.

// waysToKeep are flags for n writes: all that there are, or, of many writes, those of which one or few are kept or lost.
func waysToKeep(n int) [][]bool {
	var out [][]bool
	if n <= 6 {
		for bits := range 1 << n {
			w := make([]bool, n)
			for k := range w {
				w[k] = bits>>k&1 == 1
			}
			out = append(out, w)
		}
		return out
	}
	for _, kept := range []func(k int) bool{
		func(int) bool { return true },
		func(int) bool { return false },
		func(k int) bool { return k == 0 },
		func(k int) bool { return k != 0 },
		func(k int) bool { return k == n-1 },
		func(k int) bool { return k != n-1 },
		func(k int) bool { return k == n/2 },
		func(k int) bool { return k != n/2 },
		func(k int) bool { return k < n/2 },
		func(k int) bool { return k >= n/2 },
		func(k int) bool { return k%2 == 0 },
		func(k int) bool { return k%2 == 1 },
		func(k int) bool { return k%3 == 1 },
	} {
		w := make([]bool, n)
		for k := range w {
			w[k] = kept(k)
		}
		out = append(out, w)
	}
	return out
}

// homeOf are the octets of the home area.
func homeOf(d *disk.Disk) []byte { return sectorsOf(d)[api.Home*api.Sector:] }

// crashes goes through every way that the power fails during a call on a disk like d, and gives each disk that comes of it, with power; last the disk of a call that was done, with true.
func crashes(d *disk.Disk, call func(d *disk.Disk) api.Errno, each func(d *disk.Disk, done bool)) {
	for n := 0; ; n++ {
		c := d.Clone()
		c.Budget(n)
		if call(c) == api.OK {
			// What is done by then is flushed: a cut takes nothing of it.
			c.Cut(nil)
			c.On()
			each(c, true)
			return
		}
		for _, keep := range waysToKeep(len(c.Waits())) {
			k := c.Clone()
			k.Cut(keep)
			k.On()
			each(k, false)
		}
		// The power comes again without a cut: what waits is lost.
		c.On()
		each(c, false)
	}
}

// wantRecovered holds that Recover brings a disk to the home area want, though it fails up to depth times on the way.
func wantRecovered(t *testing.T, d *disk.Disk, want []byte, depth int) {
	t.Helper()
	if depth > 0 {
		crashes(d, recovered, func(c *disk.Disk, done bool) {
			if done && !bytes.Equal(homeOf(c), want) {
				t.Fatal("behind a Recover on a budget the home area is another one")
			}
			wantRecovered(t, c, want, depth-1)
		})
		return
	}
	c := d.Clone()
	if _, e := journal.Recover(c); e != api.OK {
		t.Fatalf("Recover: %d", e)
	}
	if !bytes.Equal(homeOf(c), want) || !bytes.Equal(mustHas(t, c, 0), all(0)) {
		t.Fatal("behind Recover the home area is another one, or the head is left")
	}
	before := sectorsOf(c)
	c.Budget(0)
	wantRecover(t, c, 0)
	if !bytes.Equal(sectorsOf(c), before) || len(c.Waits()) != 0 || !c.Power() {
		t.Fatal("a further Recover has changed something")
	}
}

// wantAllOrNothing holds that a transaction on a disk like d is done or not, however the power fails.
func wantAllOrNothing(t *testing.T, d *disk.Disk, l []api.Put, depth int) {
	t.Helper()
	whole := d.Clone()
	play(whole, commitOps(l))
	before, after := homeOf(d), homeOf(whole)
	times := map[bool]int{}
	crashes(d, func(c *disk.Disk) api.Errno { return journal.Commit(c, l) }, func(c *disk.Disk, done bool) {
		// Which of the two it comes to is settled by the head alone, before anything recovers.
		want := before
		if kept := bytes.Equal(mustHas(t, c, 0), honest(l).sector()); kept || done || bytes.Equal(homeOf(c), after) {
			want = after
		}
		times[bytes.Equal(want, after)]++
		wantRecovered(t, c, want, depth)
	})
	if times[true] == 0 || times[false] == 0 {
		t.Errorf("it was done %d times, and not done %d times", times[true], times[false])
	}
}

func TestAllOrNothing(t *testing.T) {
	wantAllOrNothing(t, used(t, 42), puts(41), 3)
	wantAllOrNothing(t, used(t, 43), puts(42, 41), 2)
	wantAllOrNothing(t, newDisk(t, 43), []api.Put{{At: 41, B: all(7)}, {At: 42, B: all(8)}}, 2)
	wantAllOrNothing(t, used(t, 46), puts(45, 41, 43), 1)
	wantAllOrNothing(t, used(t, 46), puts(45, 41, 43, 42, 44), 0)
	wantAllOrNothing(t, used(t, 60), run(45, 7), 1)
	wantAllOrNothing(t, used(t, 82), run(41, 40), 0)
}

// The most puts there can be, and the power fails while they are recovered.
func TestAllOfMost(t *testing.T) {
	l := run(41, 40)
	d := begun(t, 82, l)
	whole := d.Clone()
	play(whole, recoverOps(l))
	wantRecovered(t, d, homeOf(whole), 1)
}

// The journal has the head's contents of an earlier transaction, of more puts or of the same sectors.
func TestAllOrNothingBehindAnother(t *testing.T) {
	d := used(t, 46)
	earlier := puts(44, 43, 42, 41)
	for k := range earlier {
		earlier[k].B = all(byte(60 + k))
	}
	mustCommit(t, d, earlier)
	wantAllOrNothing(t, d, puts(44, 43), 2)
	wantAllOrNothing(t, d, puts(45), 2)

	// It was cut off and recovered.
	d = begun(t, 46, earlier)
	wantRecover(t, d, 4)
	wantAllOrNothing(t, d, puts(41, 45), 1)
}

// A commit that returned OK loses nothing, whatever becomes of the power later.
func TestCommittedIsKept(t *testing.T) {
	l := puts(41, 43)
	d := used(t, 44)
	mustCommit(t, d, l)
	want := sectorsOf(d)
	for _, keep := range [][]bool{nil, {true}, {false, true, true}} {
		c := d.Clone()
		c.Cut(keep)
		c.On()
		wantRecover(t, c, 0)
		if !bytes.Equal(sectorsOf(c), want) {
			t.Errorf("kept %v: the sectors are others", keep)
		}
	}
}

// source makes numbers, one from the other.
type source uint64

func (s *source) below(n int) int {
	*s = *s*6364136223846793005 + 1442695040888963407
	return int(uint64(*s)>>33) % n
}

// transaction is one of up to most puts, for a disk of size sectors.
func (s *source) transaction(size, most int) []api.Put {
	home := make([]int, size-api.Home)
	for k := range home {
		home[k] = api.Home + k
		j := s.below(k + 1)
		home[k], home[j] = home[j], home[k]
	}
	l := puts(home[:1+s.below(min(most, len(home)))]...)
	for k := range l {
		l[k].B = mixed(s.below(1 << 30))
	}
	return l
}

// fail cuts the power, keeping what the source says.
func (s *source) fail(d *disk.Disk) {
	keep := make([]bool, s.below(len(d.Waits())+2))
	for k := range keep {
		keep[k] = s.below(2) == 0
	}
	d.Cut(keep)
	d.On()
}

// Many transactions on one disk, with power that fails again and again.
func TestManyTransactions(t *testing.T) {
	const size = 90
	d, s := used(t, size), source(7)
	before, done, undone := homeOf(d), 0, 0
	for range 1500 {
		l := s.transaction(size, api.MaxPuts)
		whole := d.Clone()
		play(whole, commitOps(l))
		after := homeOf(whole)
		d.Budget(s.below(3*len(l) + 9))
		committed := journal.Commit(d, l) == api.OK
		s.fail(d)
		for {
			d.Budget(s.below(2*len(l) + 4))
			if _, e := journal.Recover(d); e == api.OK {
				break
			}
			s.fail(d)
		}
		d.On()
		switch got := homeOf(d); {
		case bytes.Equal(got, after):
			done++
		case bytes.Equal(got, before) && !committed:
			undone++
		default:
			t.Fatalf("behind %d done and %d undone: neither, or not what was answered (committed: %t)", done, undone, committed)
		}
		before = homeOf(d)
	}
	if done < 300 || undone < 300 {
		t.Errorf("%d done, %d undone", done, undone)
	}
}
