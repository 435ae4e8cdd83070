package hot_test

import (
	"bytes"
	"encoding/binary"
	"hash/crc32"
	"math"
	"slices"
	"strconv"
	"testing"

	"hamper/api"
	"hamper/hot"
)

// The chapter's examples.

func TestExamples(t *testing.T) {
	d := newDisk(t, api.Home+10)
	h, e := hot.Format(d)
	if e != api.OK || h.Total() != 9 || h.Free() != 8 || !slices.Equal(h.Used(), []int{0}) {
		t.Fatalf("Format: %d, %d pages, %d of them free, used %v", e, h.Total(), h.Free(), h.Used())
	}
	data := mixed(200, 1)
	if e := h.Batch([]api.Change{{ID: 5, Data: data}}); e != api.OK || h.Free() != 6 || !slices.Equal(h.Used(), []int{1, 2, 3}) {
		t.Errorf("Batch: %d, %d free, used %v", e, h.Free(), h.Used())
	}
	if b, e := h.Get(5); e != api.OK || !bytes.Equal(b, data) {
		t.Errorf("Get: %v, %d", b, e)
	}
	if e := h.Batch([]api.Change{{ID: 5, Gone: true}, {ID: 6, Gone: true}}); e != api.ErrNone {
		t.Errorf("Batch: %d; want ErrNone", e)
	}
}

// TestOctets: what is on the disk, octet by octet.
func TestOctets(t *testing.T) {
	s := made(t, 51)
	has := func(i int, want []byte) {
		t.Helper()
		want = append(slices.Clone(want), make([]byte, 128-len(want))...)
		if b, _ := s.d.Has(i); !bytes.Equal(b, want) {
			t.Errorf("sector %d: %v; want %v", i, b, want)
		}
	}
	seal := func(b []byte) []byte { return binary.LittleEndian.AppendUint32(b, crc32.ChecksumIEEE(b)) }
	has(0, nil)
	has(41, seal([]byte{0x68, 0x73, 0x75, 0x70, 1, 0, 0, 0}))
	has(42, seal([]byte{1, 0}))

	data := mixed(200, 7)
	s.does(t, api.OK, api.Change{ID: 0x0807060504030201, Data: data}, api.Change{ID: 2})
	has(0, nil)
	has(41, seal([]byte{0x68, 0x73, 0x75, 0x70, 1, 0, 3, 0}))
	has(43, append([]byte{3, 0}, data[:126]...))
	has(44, append([]byte{0, 0}, data[126:]...))
	sum := crc32.ChecksumIEEE(data)
	has(45, seal([]byte{
		1, 2,
		2, 0, 0, 0, 0, 0, 0, 0, 0, 0, 0, 0, 0, 0, 0, 0,
		1, 2, 3, 4, 5, 6, 7, 8, 2, 0, 200, 0, byte(sum), byte(sum >> 8), byte(sum >> 16), byte(sum >> 24),
	}))
}

// P7.1: Format. (Open is in open_test.go.)

func TestFormat(t *testing.T) {
	for _, n := range []int{44, 45, 51, 82, 2047, 2048} {
		s := made(t, n)
		wantStore(t, s.h, s.m)
		want := noisy(t, n)
		if e := formatted(t, want); e != api.OK {
			t.Fatalf("the model of Format: %d", e)
		}
		wantDisk(t, s.d, want)
		s.open(t)
	}
}

// Format of what is a store: nothing of it is left.
func TestFormatAgain(t *testing.T) {
	s := made(t, 60)
	s.does(t, api.OK, put(1, 300), put(2, 5), put(3, 0))
	s.does(t, api.OK, put(4, 30))
	h, e := hot.Format(s.d)
	if e != api.OK {
		t.Fatalf("Format: %d", e)
	}
	s.h, s.m = h, made(t, 60).m
	wantStore(t, s.h, s.m)
	s.open(t)
	s.does(t, api.OK, put(1, 300))
}

func TestSmallDisks(t *testing.T) {
	for _, n := range []int{1, 2, 40, 41, 42, 43} {
		d := noisy(t, n)
		for _, off := range []bool{false, true} {
			if off {
				d.Cut(nil)
			} else {
				d.Write(0, mixed(api.Sector, 1))
				d.Budget(0)
			}
			before := shown(d)
			if h, e := hot.Format(d); e != api.ErrArg || h != nil {
				t.Errorf("Format of %d sectors: %d; want ErrArg", n, e)
			}
			if h, e := hot.Open(d); e != api.ErrArg || h != nil {
				t.Errorf("Open of %d sectors: %d; want ErrArg", n, e)
			}
			if shown(d) != before {
				t.Errorf("%d sectors: the disk has changed", n)
			}
		}
	}
}

// The smallest disk has two pages: the directory goes to and fro between them.
func TestSmallestDisk(t *testing.T) {
	s := made(t, 44)
	for range 3 {
		s.does(t, api.OK, put(1, 0))
		s.does(t, api.OK)
		s.does(t, api.ErrFull, put(2, 1))
		s.does(t, api.OK, gone(1), put(greatest, 0), put(0, 0))
		s.does(t, api.OK, gone(greatest), gone(0))
		s.open(t)
	}
	s.does(t, api.OK, empties(10, 7)...)
	s.does(t, api.ErrFull, put(1, 0))
	s.does(t, api.OK, gone(12), put(1, 0))
}

// P7.2: Batch.

// blobSizes are those at the edges of pages, and of what a blob may have.
func blobSizes() []int {
	return []int{0, 1, 2, 125, 126, 127, 128, 251, 252, 253, 378, 379, 1000, 3906, 3907, 4031, 4032}
}

func TestSizes(t *testing.T) {
	s := made(t, 200)
	for _, n := range blobSizes() {
		s.does(t, api.OK, put(7, n))
		if b := s.m.blobs[7]; len(b.pages) != (n+125)/126 {
			t.Fatalf("%d octets: the pages %v", n, b.pages)
		}
		s.open(t)
		s.does(t, api.OK, put(uint64(n)+100, n))
		s.does(t, api.OK, gone(uint64(n)+100))
	}
	for _, n := range []int{4033, 4034, 4158, 65535, 65536, 65537, 1 << 20} {
		s.does(t, api.ErrArg, put(7, n))
		s.does(t, api.ErrArg, put(8, n))
	}
	for _, n := range blobSizes() {
		s.does(t, api.OK, api.Change{ID: 7, Data: make([]byte, n)})
	}
}

func TestIDs(t *testing.T) {
	s := made(t, 80)
	s.does(t, api.OK, put(greatest, 3), put(1<<63, 3), put(0, 3), put(1<<63-1, 3), put(1<<32, 3), put(1, 3), put(256, 3), put(255, 3))
	want := []uint64{0, 1, 255, 256, 1 << 32, 1<<63 - 1, 1 << 63, greatest}
	if got := s.h.IDs(); !slices.Equal(got, want) {
		t.Errorf("IDs: %v; want %v", got, want)
	}
	s.open(t)
}

func TestNotValid(t *testing.T) {
	s := made(t, 60)
	s.does(t, api.OK, put(1, 130), put(2, 0))
	for _, l := range [][]api.Change{
		{put(3, 1), put(3, 1)},
		{put(3, 1), put(4, 1), put(3, 2)},
		{put(1, 1), gone(1)},
		{gone(1), put(1, 1)},
		{gone(1), gone(1)},
		{gone(1), put(4, 0), gone(2), gone(1)},
		{gone(9), gone(9)},
		{{ID: 1, Gone: true, Data: []byte{0}}},
		{put(5, 1), {ID: 2, Gone: true, Data: []byte{7}}},
		{{ID: 9, Gone: true, Data: mixed(4033, 0)}},
		{put(3, 4033)},
		{put(4, 1), put(3, 4033), gone(1)},
		// What may not be comes ahead of what is not there, and of what is too much.
		{gone(8), put(3, 1), put(3, 1)},
		{gone(8), put(3, 4033)},
		append(empties(10, 700), empties(10, 1)...),
		{put(3, 4032), put(4, 4032), put(5, 4033)},
	} {
		s.does(t, api.ErrArg, l...)
	}
	// No octets are none, whether there is a slice for them or not.
	s.does(t, api.OK, api.Change{ID: 1, Gone: true, Data: []byte{}})
	s.does(t, api.OK, api.Change{ID: 1, Data: []byte{}})
}

func TestGone(t *testing.T) {
	s := made(t, 60)
	s.does(t, api.ErrNone, gone(1))
	s.does(t, api.OK, put(1, 500), put(2, 0), put(3, 126))
	for _, l := range [][]api.Change{
		{gone(4)},
		{gone(0)},
		{gone(greatest)},
		{gone(1), gone(4)},
		{gone(4), gone(1)},
		{put(4, 1), gone(5)},
		{put(2, 4), gone(1), gone(6), gone(3)},
		// What is not there comes ahead of what is too much.
		{put(7, 4032), gone(4)},
		append(empties(10, 700), gone(4)),
	} {
		s.does(t, api.ErrNone, l...)
	}
	s.does(t, api.OK, gone(2))
	s.does(t, api.ErrNone, gone(2))
	s.does(t, api.OK, gone(3), gone(1))
	s.does(t, api.ErrNone, gone(3))
	s.does(t, api.OK, put(2, 5))
	s.open(t)
	s.does(t, api.OK, gone(2))
}

func TestPutAgain(t *testing.T) {
	s := made(t, 140)
	for _, n := range []int{10, 300, 300, 0, 0, 126, 127, 4032, 1} {
		s.does(t, api.OK, put(1, n))
		s.does(t, api.OK, put(2, n/8), api.Change{ID: 1, Data: mixed(n, 9)})
	}
	s.open(t)
}

func TestNoChanges(t *testing.T) {
	s := made(t, 80)
	for k := range 5 {
		s.does(t, api.OK)
		if want := []int{(k + 1) % 2}; !slices.Equal(s.m.dir, want) {
			t.Errorf("the directory is in %v; want %v", s.m.dir, want)
		}
	}
	s.does(t, api.OK, empties(1, 90)...)
	before := slices.Clone(s.m.dir)
	s.does(t, api.OK, []api.Change{}...)
	if slices.ContainsFunc(s.m.dir, func(p int) bool { return slices.Contains(before, p) }) {
		t.Errorf("the directory was in %v, and is in %v", before, s.m.dir)
	}
	s.open(t)
}

// TestPages: which pages are used, told by hand.
func TestPages(t *testing.T) {
	s := made(t, 60)
	for _, c := range []struct {
		l    []api.Change
		used []int
		dir  int
		one  []int // the pages of blob 1
	}{
		{[]api.Change{put(1, 130)}, []int{1, 2, 3}, 3, []int{1, 2}},
		{[]api.Change{put(2, 10)}, []int{0, 1, 2, 4}, 4, []int{1, 2}},
		// The old pages of 1 are not taken for the new ones, nor those of the directory.
		{[]api.Change{put(1, 300)}, []int{0, 3, 5, 6, 7}, 7, []int{3, 5, 6}},
		// The pages that the batch before left are taken, the lowest first, in list order.
		{[]api.Change{put(9, 130), put(3, 1)}, []int{0, 1, 2, 3, 4, 5, 6, 8}, 8, []int{3, 5, 6}},
		{[]api.Change{gone(9), gone(2)}, []int{3, 4, 5, 6, 7}, 7, []int{3, 5, 6}},
		{nil, []int{0, 3, 4, 5, 6}, 0, []int{3, 5, 6}},
		{[]api.Change{put(1, 0)}, []int{1, 4}, 1, nil},
		{[]api.Change{gone(1), gone(3)}, []int{0}, 0, nil},
	} {
		s.does(t, api.OK, c.l...)
		if !slices.Equal(s.h.Used(), c.used) || !slices.Equal(s.m.dir, []int{c.dir}) || !slices.Equal(s.m.blobs[1].pages, c.one) {
			t.Fatalf("used %v, directory %v, blob 1 %v; want %v, %d, %v", s.h.Used(), s.m.dir, s.m.blobs[1].pages, c.used, c.dir, c.one)
		}
	}
}

// TestFullByPages: batches that take all free pages, or would take one more.
func TestFullByPages(t *testing.T) {
	for _, n := range []int{44, 45, 46, 51, 60, 79, 80} {
		free := n - 43
		s := made(t, n)
		most := (free - 1) * 126
		if most > 4032 {
			s.does(t, api.ErrFull, put(1, 4032), put(2, most-4032+1))
			s.does(t, api.OK, put(1, 4032), put(2, most-4032))
		} else {
			s.does(t, api.ErrFull, put(1, most+1))
			s.does(t, api.OK, put(1, most))
		}
		if s.h.Free() != 1 {
			t.Fatalf("%d sectors: %d free", n, s.h.Free())
		}
		// The one that is left is that of the directory that was; the next takes it.
		s.does(t, api.ErrFull, put(1, 1))
		s.does(t, api.ErrFull, put(3, 1))
		s.does(t, api.OK, put(3, 0))
		s.does(t, api.OK, gone(3))
		s.does(t, api.OK, gone(1))
		s.does(t, api.OK, put(4, 0))
		s.open(t)
	}
}

// TestFullWithoutAnyFree: not even the directory can be stored anew, so nothing can be changed.
func TestFullWithoutAnyFree(t *testing.T) {
	d := sketchOf(45, []int{2}, mixed(130, 1), 7, []int{1, 0}).disk(t)
	s := &both{mustOpen(t, d), d, model{total: 3, blobs: map[uint64]blob{7: {mixed(130, 1), []int{1, 0}}}, dir: []int{2}}}
	wantStore(t, s.h, s.m)
	for _, l := range [][]api.Change{{}, {put(7, 0)}, {put(8, 0)}, {gone(7)}} {
		s.does(t, api.ErrFull, l...)
	}
	s.does(t, api.ErrNone, gone(8))
	s.does(t, api.ErrArg, gone(7), gone(7))
}

// TestFullByDirectory: where a pair more makes a directory of more pages.
func TestFullByDirectory(t *testing.T) {
	s := made(t, 46)
	s.does(t, api.OK, empties(1, 7)...)
	s.does(t, api.OK, empties(1, 8)...)
	if s.h.Free() != 1 {
		t.Fatalf("8 blobs: %d free", s.h.Free())
	}
	s.does(t, api.ErrFull)
	s.does(t, api.ErrFull, put(1, 0))
	s.does(t, api.ErrFull, put(9, 0))
	s.does(t, api.OK, gone(8))
	s.does(t, api.ErrFull, put(9, 1), put(8, 1))
	s.does(t, api.OK, gone(1), put(9, 0))
}

// TestFullByPuts: there is room enough, but not in a transaction.
func TestFullByPuts(t *testing.T) {
	s := made(t, 2048)
	for _, c := range []struct {
		want api.Errno
		l    []api.Change
	}{
		{api.OK, []api.Change{put(1, 4032), put(2, 6*126)}},        // 38 pages, the directory, the superblock
		{api.ErrFull, []api.Change{put(1, 4032), put(2, 6*126+1)}}, // 39 pages
		{api.ErrFull, []api.Change{put(1, 4032), put(2, 4032)}},
		{api.OK, append(empties(3, 5), put(1, 4032), put(2, 6*126))},
		{api.ErrFull, append(empties(8, 1), put(1, 4032), put(2, 6*126))},      // three pages of directory: 42
		{api.ErrFull, append(empties(8, 1), put(1, 4032), put(2, 4*126+1))},    // 41
		{api.OK, append(empties(8, 1), put(1, 4032), put(2, 4*126))},           // 40
		{api.OK, []api.Change{gone(8), put(1, 4032), put(2, 6*126)}},           // the directory is one page again
		{api.ErrFull, append(empties(20, 38), put(1, 4032), put(2, 4*126))},    // seven leaves
		{api.OK, append(empties(20, 38), put(1, 30*126), put(2, 126))},         // 31 pages, 7 leaves, a root
		{api.ErrFull, append(empties(20, 38), put(1, 30*126), put(2, 127))},    // 32
		{api.ErrFull, append(empties(80, 1000), put(1, 30*126), put(2, 4032))}, // too many of everything
	} {
		s.does(t, c.want, c.l...)
	}
	s.open(t)
}

// TestFullByPairs: 245 pairs are the most whose directory of 39 pages and the superblock are 40 puts. More than 600 have no tree at all.
func TestFullByPairs(t *testing.T) {
	s := made(t, 200)
	for _, n := range []int{246, 252, 253, 599, 600, 601, 602, 607, 608, 1000, 1200, 4000} {
		s.does(t, api.ErrFull, empties(1, n)...)
	}
	s.does(t, api.OK, empties(1, 245)...)
	if len(s.m.dir) != 39 {
		t.Fatalf("245 blobs: %d pages", len(s.m.dir))
	}
	s.open(t)
	s.does(t, api.OK)
	s.does(t, api.ErrFull, put(246, 0))
	s.does(t, api.ErrFull, put(245, 1))
	s.does(t, api.ErrFull, empties(246, 355)...)
	s.does(t, api.ErrFull, empties(246, 356)...)
	s.does(t, api.ErrFull, empties(1, 601)...)
	s.does(t, api.OK, empties(1, 245)...)
	s.does(t, api.OK, gone(245), put(246, 0))
	s.does(t, api.ErrFull, gone(244), put(246, 1))
	s.does(t, api.OK, gone(244), gone(243))
	s.open(t)
}

// TestManyChanges: a list that is long is refused, and soon.
func TestManyChanges(t *testing.T) {
	s := made(t, 60)
	s.does(t, api.OK, put(5, 5))
	long := empties(6, 300000)
	if e := s.h.Batch(long); e != api.ErrFull {
		t.Errorf("Batch of 300000 changes: %d; want ErrFull", e)
	}
	long[299999].ID = 6
	if e := s.h.Batch(long); e != api.ErrArg {
		t.Errorf("Batch of 300000 changes: %d; want ErrArg", e)
	}
	long[299999] = gone(4)
	if e := s.h.Batch(long); e != api.ErrNone {
		t.Errorf("Batch of 300000 changes: %d; want ErrNone", e)
	}
	wantStore(t, s.h, s.m)
}

// TestBatchesBesideModel: many batches on small disks.
func TestBatchesBesideModel(t *testing.T) {
	told := map[api.Errno]int{}
	for _, n := range []int{44, 45, 48, 55, 65, 90} {
		s, next := made(t, n), source(n)
		for k := range 700 {
			told[s.batch(t, next.changes(s.m)...)]++
			if k%10 == 0 {
				s.open(t)
			}
		}
	}
	for _, e := range []api.Errno{api.OK, api.ErrArg, api.ErrNone, api.ErrFull} {
		if told[e] < 100 {
			t.Errorf("error %d was answered only %d times", e, told[e])
		}
	}
}

// Several levels of a directory, and blobs between each other.
func TestManyBlobs(t *testing.T) {
	s := made(t, 600)
	for k := range 23 {
		var l []api.Change
		for i := range 8 {
			l = append(l, put(uint64(k*37+i*1013)%5003, (k*i*29)%130))
		}
		s.does(t, api.OK, l...)
	}
	if len(s.m.dir) < 16 {
		t.Fatalf("the directory has %d pages", len(s.m.dir))
	}
	s.open(t)
	for len(s.m.blobs) > 0 {
		l := []api.Change(nil)
		for id := range s.m.blobs {
			l = append(l, gone(id))
		}
		slices.SortFunc(l, func(a, b api.Change) int { return int(a.ID) - int(b.ID) })
		s.does(t, api.OK, l[:min(len(l), 11)]...)
	}
	s.open(t)
}

// P7.3: Get, Size, IDs, Total, Free, Used.

// TestWithoutPower: which of them need power, and which error comes first.
func TestWithoutPower(t *testing.T) {
	s := made(t, 60)
	s.does(t, api.OK, put(1, 300), put(2, 0))
	s.d.Cut(nil)
	before := shown(s.d)
	for _, id := range []uint64{1, 2} {
		if b, e := s.h.Get(id); e != api.ErrPower || len(b) != 0 {
			t.Errorf("Get(%d): %d octets, %d; want ErrPower", id, len(b), e)
		}
	}
	if b, e := s.h.Get(3); e != api.ErrNone || len(b) != 0 {
		t.Errorf("Get(3): %d; want ErrNone", e)
	}
	if n, e := s.h.Size(1); n != 300 || e != api.OK {
		t.Errorf("Size(1): %d, %d", n, e)
	}
	if n, e := s.h.Size(3); n != 0 || e != api.ErrNone {
		t.Errorf("Size(3): %d, %d", n, e)
	}
	if !slices.Equal(s.h.IDs(), []uint64{1, 2}) || s.h.Total() != 18 || s.h.Free() != 14 || !slices.Equal(s.h.Used(), s.m.used(t)) {
		t.Errorf("%v, %d, %d, %v", s.h.IDs(), s.h.Total(), s.h.Free(), s.h.Used())
	}
	for want, l := range map[api.Errno][]api.Change{
		api.ErrArg:   {put(3, 1), put(3, 1)},
		api.ErrNone:  {gone(3)},
		api.ErrFull:  {put(3, 4032)},
		api.ErrPower: {put(3, 1)},
	} {
		if e := s.h.Batch(l); e != want {
			t.Errorf("Batch: %d; want %d", e, want)
		}
	}
	if e := s.h.Batch(nil); e != api.ErrPower {
		t.Errorf("Batch of nothing: %d; want ErrPower", e)
	}
	if h, e := hot.Open(s.d); e != api.ErrPower || h != nil {
		t.Errorf("Open: %d; want ErrPower", e)
	}
	if h, e := hot.Format(s.d); e != api.ErrPower || h != nil {
		t.Errorf("Format: %d; want ErrPower", e)
	}
	if shown(s.d) != before {
		t.Error("the disk has changed")
	}
	s.d.On()
	s.open(t)
}

// TestGetOfSpoilt: an octet of a blob that is another one is told, wherever it is; those beside the blob's octets do not count, and no other blob is touched.
func TestGetOfSpoilt(t *testing.T) {
	s := made(t, 60)
	s.does(t, api.OK, put(1, 300), put(2, 126), put(3, 1), put(4, 0))
	for id, b := range s.m.blobs {
		for at := range 126 * len(b.pages) {
			i := 42 + b.pages[at/126]
			was, _ := s.d.Read(i)
			spoilt := slices.Clone(was)
			spoilt[2+at%126] ^= 1 << (at % 8)
			s.d.Write(i, spoilt)
			want, data := api.ErrSum, []byte(nil)
			if at >= len(b.data) {
				want, data = api.OK, b.data
			}
			if got, e := s.h.Get(id); e != want || !bytes.Equal(got, data) {
				t.Fatalf("blob %d, octet %d: %d octets, %d; want %d", id, at, len(got), e, want)
			}
			for other, o := range s.m.blobs {
				if got, e := s.h.Get(other); other != id && (e != api.OK || !bytes.Equal(got, o.data)) {
					t.Fatalf("blob %d is spoilt: Get(%d): %d", id, other, e)
				}
			}
			if n, e := s.h.Size(id); n != len(b.data) || e != api.OK {
				t.Fatalf("blob %d is spoilt: Size: %d, %d", id, n, e)
			}
			s.d.Write(i, was)
		}
	}
	s.d.Flush()
	wantStore(t, s.h, s.m)
}

// A sector of which all is another one; then the blob is put again, or is gone.
func TestSpoiltSectors(t *testing.T) {
	for _, b := range [][]byte{make([]byte, 128), bytes.Repeat([]byte{255}, 128), mixed(128, 3)} {
		for k := range 3 {
			s := made(t, 60)
			s.does(t, api.OK, put(1, 300), put(2, 50))
			s.d.Write(42+s.m.blobs[1].pages[k], b)
			s.d.Flush()
			if got, e := s.h.Get(1); e != api.ErrSum || len(got) != 0 {
				t.Fatalf("Get: %d octets, %d; want ErrSum", len(got), e)
			}
			if got, e := s.h.Get(2); e != api.OK || len(got) != 50 {
				t.Fatalf("Get of another one: %d octets, %d", len(got), e)
			}
			if k == 0 {
				s.does(t, api.OK, put(1, 200))
			} else {
				s.does(t, api.OK, gone(1))
			}
			s.open(t)
		}
	}
}

// Rule R3: what is handed in is neither changed nor kept, and what is handed out is new.

func TestHandedIn(t *testing.T) {
	s := made(t, 60)
	room := mixed(600, 4)
	l := make([]api.Change, 2, 4)
	l[0], l[1] = api.Change{ID: 1, Data: room[10:210]}, api.Change{ID: 2, Data: room[210:300]}
	l[:4][2] = put(3, 7)
	s.does(t, api.OK, l...)
	if !bytes.Equal(room, mixed(600, 4)) || !sameChanges(l[:4][2:3], []api.Change{put(3, 7)}) || l[:4][3].ID != 0 {
		t.Error("what is beside what was handed in has changed")
	}
	clear(room)
	l[0], l[1] = gone(1), gone(2)
	wantStore(t, s.h, s.m)
	s.open(t)
}

func TestHandedOut(t *testing.T) {
	s := made(t, 60)
	s.does(t, api.OK, put(1, 300), put(2, 126), put(3, 0), put(4, 1))
	for range 2 {
		for id := range s.m.blobs {
			b, _ := s.h.Get(id)
			again, _ := s.h.Get(id)
			b = b[:cap(b)]
			for i := range b {
				b[i] ^= 255
			}
			if !bytes.Equal(again, s.m.blobs[id].data) {
				t.Errorf("two answers of Get(%d) share memory", id)
			}
		}
		ids, used := s.h.IDs(), s.h.Used()
		clear(ids[:cap(ids)])
		clear(used[:cap(used)])
		wantStore(t, s.h, s.m)
		s.does(t, api.OK, put(5, 200))
	}
	s.open(t)
}

// TestTwoStores: nothing of a store is seen by another one.
func TestTwoStores(t *testing.T) {
	a, b := made(t, 60), made(t, 50)
	a.does(t, api.OK, put(1, 300))
	b.does(t, api.OK, put(1, 200), put(2, 1))
	a.does(t, api.ErrNone, gone(2))
	b.does(t, api.OK, gone(1))
	wantStore(t, a.h, a.m)
	wantStore(t, b.h, b.m)
	a.does(t, api.OK, put(1, 4), put(2, 5))
	wantStore(t, b.h, b.m)
}

// The result hangs on no order of a map: the same batches make the same disk each time.
func TestSameEachTime(t *testing.T) {
	var first string
	for k := range 8 {
		s := made(t, 300)
		s.does(t, api.OK, append(empties(1000, 100), put(7, 200), put(3, 90))...)
		s.does(t, api.OK, gone(1050), put(9, 300), gone(1001), put(1002, 5))
		if got := shown(s.d); k == 0 {
			first = got
		} else if got != first {
			t.Fatal("the disk is another one, time " + strconv.Itoa(k))
		}
	}
}

// TestOddIDs: whatever is asked for, the answer is that there is none.
func TestOddIDs(t *testing.T) {
	s := made(t, 44)
	for _, id := range []uint64{0, 1, 41, 42, 43, 1 << 16, math.MaxInt64, 1 << 63, greatest} {
		if b, e := s.h.Get(id); len(b) != 0 || e != api.ErrNone {
			t.Errorf("Get(%d): %d", id, e)
		}
		if n, e := s.h.Size(id); n != 0 || e != api.ErrNone {
			t.Errorf("Size(%d): %d", id, e)
		}
		s.does(t, api.ErrNone, gone(id))
		s.does(t, api.OK, put(id, 0))
		s.does(t, api.OK, gone(id))
	}
}
