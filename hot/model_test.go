package hot_test

import (
	"bytes"
	"encoding/binary"
	"fmt"
	"hash/crc32"
	"maps"
	"slices"
	"testing"

	"hamper/api"
	"hamper/disk"
	"hamper/hot"
	"hamper/journal"
	"hamper/tree"
)

const greatest = 1<<64 - 1

// mixed are n octets of which none follows simply from the one before it.
func mixed(n, seed int) []byte {
	out, v := make([]byte, n), uint64(seed)+1
	for i := range out {
		v = v*6364136223846793005 + 1442695040888963407
		out[i] = byte(v >> 56)
	}
	return out
}

// put is a change that puts n octets.
func put(id uint64, n int) api.Change { return api.Change{ID: id, Data: mixed(n, int(id)*100+n)} }

func gone(id uint64) api.Change { return api.Change{ID: id, Gone: true} }

// empties are changes that put n empty blobs, from an ID on.
func empties(id uint64, n int) []api.Change {
	out := make([]api.Change, n)
	for k := range out {
		out[k].ID = id + uint64(k)
	}
	return out
}

func cloned(l []api.Change) []api.Change {
	out := slices.Clone(l)
	for k := range out {
		out[k].Data = slices.Clone(out[k].Data)
	}
	return out
}

func sameChanges(l, m []api.Change) bool {
	return slices.EqualFunc(l, m, func(a, b api.Change) bool {
		return a.ID == b.ID && a.Gone == b.Gone && bytes.Equal(a.Data, b.Data)
	})
}

// The layout of a disk, told by the chapter's words.

// sheet is a page of a blob: a link, and octets.
func sheet(link int, b []byte) []byte {
	out := append(binary.LittleEndian.AppendUint16(nil, uint16(link)), b...)
	return append(out, make([]byte, api.Sector-len(out))...)
}

// sealed are octets with their checksum, filled with zeros to a sector.
func sealed(b []byte) []byte {
	b = binary.LittleEndian.AppendUint32(slices.Clone(b), crc32.ChecksumIEEE(b))
	return append(b, make([]byte, max(0, api.Sector-len(b)))...)
}

// superOf is the superblock of a directory, ahead of its checksum.
func superOf(dir ...int) []byte {
	b := []byte{0x68, 0x73, 0x75, 0x70}
	for _, v := range append([]int{len(dir)}, dir...) {
		b = binary.LittleEndian.AppendUint16(b, uint16(v))
	}
	return b
}

// chainOf is the sectors of a blob's octets in pages.
func chainOf(data []byte, pages []int) [][]byte {
	out := make([][]byte, len(pages))
	for k := range pages {
		link := 0
		if k+1 < len(pages) {
			link = pages[k+1] + 1
		}
		out[k] = sheet(link, data[k*126:min(len(data), k*126+126)])
	}
	return out
}

// pairOf is a blob's pair.
func pairOf(id uint64, data []byte, pages []int) api.Pair {
	val := uint64(len(data)) << 16
	if len(pages) > 0 {
		val += uint64(pages[0]) + 1
	}
	return api.Pair{Key: id, Val: val + uint64(crc32.ChecksumIEEE(data))<<32}
}

// A blob is octets, and the pages where they are.
type blob struct {
	data  []byte
	pages []int
}

// A model is a store: how many pages there are, the blobs, and the pages of the directory.
type model struct {
	total int
	blobs map[uint64]blob
	dir   []int
}

// used are the pages that are not free; that one is used twice is an error.
func (m model) used(t *testing.T) []int {
	t.Helper()
	out := slices.Clone(m.dir)
	for _, b := range m.blobs {
		out = append(out, b.pages...)
	}
	slices.Sort(out)
	if len(slices.Compact(slices.Clone(out))) != len(out) || len(out) > 0 && (out[0] < 0 || out[len(out)-1] >= m.total) {
		t.Fatalf("the pages %v are used", out)
	}
	return out
}

func (m model) free(t *testing.T) []int {
	t.Helper()
	used, out := m.used(t), []int(nil)
	for p := range m.total {
		if !slices.Contains(used, p) {
			out = append(out, p)
		}
	}
	return out
}

func (m model) pairs() []api.Pair {
	var out []api.Pair
	for _, id := range slices.Sorted(maps.Keys(m.blobs)) {
		out = append(out, pairOf(id, m.blobs[id].data, m.blobs[id].pages))
	}
	return out
}

// refuses is the error of changes that may not be, or that name what is not there.
func (m model) refuses(l []api.Change) api.Errno {
	for k, c := range l {
		twice := slices.ContainsFunc(l[:k], func(o api.Change) bool { return o.ID == c.ID })
		if twice || len(c.Data) > 4032 || c.Gone && len(c.Data) > 0 {
			return api.ErrArg
		}
	}
	for _, c := range l {
		if _, there := m.blobs[c.ID]; c.Gone && !there {
			return api.ErrNone
		}
	}
	return api.OK
}

// batch is the store behind changes, and the transaction that makes it so.
func (m model) batch(t *testing.T, l []api.Change) (model, []api.Put, api.Errno) {
	t.Helper()
	if e := m.refuses(l); e != api.OK {
		return m, nil, e
	}
	free, full, puts := m.free(t), false, []api.Put(nil)
	take := func(n int) []int {
		if n > len(free) {
			full = true
			return make([]int, n)
		}
		out := free[:n:n]
		free = free[n:]
		return out
	}
	lay := func(pages []int, sectors [][]byte) {
		for k, p := range pages {
			puts = append(puts, api.Put{At: 42 + p, B: sectors[k]})
		}
	}
	next := model{total: m.total, blobs: maps.Clone(m.blobs)}
	for _, c := range l {
		delete(next.blobs, c.ID)
		if !c.Gone {
			b := blob{slices.Clone(c.Data), take((len(c.Data) + 125) / 126)}
			next.blobs[c.ID] = b
			lay(b.pages, chainOf(b.data, b.pages))
		}
	}
	if len(next.blobs) > 600 {
		return m, nil, api.ErrFull
	}
	sheets, _ := tree.Build(next.pairs())
	next.dir = take(len(sheets))
	lay(next.dir, sheets)
	puts = append(puts, api.Put{At: 41, B: sealed(superOf(next.dir...))})
	if full || len(puts) > 40 {
		return m, nil, api.ErrFull
	}
	return next, puts, api.OK
}

// Disks and stores.

func newDisk(t *testing.T, n int) *disk.Disk {
	t.Helper()
	d, e := disk.New(n)
	if e != api.OK {
		t.Fatalf("New(%d): %d", n, e)
	}
	return d
}

// noisy is a disk on which each sector has octets of its own.
func noisy(t *testing.T, n int) *disk.Disk {
	t.Helper()
	d := newDisk(t, n)
	for i := range n {
		d.Write(i, mixed(api.Sector, 5000+i))
	}
	d.Flush()
	return d
}

// A pair of a store and its model, with the disk.
type both struct {
	h *hot.Hot
	d *disk.Disk
	m model
}

// made is a store without blobs, on a disk of n sectors that had other octets.
func made(t *testing.T, n int) *both {
	t.Helper()
	d := noisy(t, n)
	h, e := hot.Format(d)
	if e != api.OK || h == nil {
		t.Fatalf("Format of %d sectors: %d", n, e)
	}
	return &both{h, d, model{total: n - 42, blobs: map[uint64]blob{}, dir: []int{0}}}
}

// formatted does on a disk what Format does, told by the chapter's words.
func formatted(t *testing.T, d *disk.Disk) api.Errno {
	t.Helper()
	if e := journal.Format(d); e != api.OK {
		return e
	}
	_, puts, _ := model{total: d.Size() - 42}.batch(t, nil)
	return journal.Commit(d, puts)
}

// batch does changes on the store and on its model, and holds that error, store and disk are the same.
func (s *both) batch(t *testing.T, l ...api.Change) api.Errno {
	t.Helper()
	next, puts, want := s.m.batch(t, l)
	d, handed := s.d.Clone(), cloned(l)
	if want == api.OK {
		if e := journal.Commit(d, puts); e != api.OK {
			t.Fatalf("Commit: %d", e)
		}
	}
	got := s.h.Batch(l)
	if got != want {
		t.Fatalf("Batch of %d changes: %d; want %d", len(l), got, want)
	}
	if !sameChanges(l, handed) {
		t.Fatalf("Batch of %d changes: what was handed in has changed", len(l))
	}
	s.m = next
	wantDisk(t, s.d, d)
	wantStore(t, s.h, s.m)
	return got
}

// does is batch of changes whose error is known.
func (s *both) does(t *testing.T, want api.Errno, l ...api.Change) {
	t.Helper()
	if e := s.batch(t, l...); e != want {
		t.Fatalf("Batch of %d changes: %d; want %d", len(l), e, want)
	}
}

// open is the store opened again, which has to be the same.
func (s *both) open(t *testing.T) {
	t.Helper()
	s.h = mustOpen(t, s.d)
	wantStore(t, s.h, s.m)
}

func mustOpen(t *testing.T, d *disk.Disk) *hot.Hot {
	t.Helper()
	h, e := hot.Open(d)
	if e != api.OK || h == nil {
		t.Fatalf("Open: %d", e)
	}
	return h
}

func sectorsOf(d *disk.Disk) []byte {
	var out []byte
	for i := range d.Size() {
		b, _ := d.Has(i)
		out = append(out, b...)
	}
	return out
}

// shown is all that a disk shows: its sectors, what waits, what comes of that, the power, and how many writes are done yet (up to many).
func shown(d *disk.Disk) string {
	kept, left := d.Clone(), d.Clone()
	kept.Cut(slices.Repeat([]bool{true}, len(d.Waits())))
	n := 0
	for n < 100 && left.Flush() == api.OK {
		n++
	}
	return fmt.Sprintf("%t %d %v %x %x", d.Power(), n, d.Waits(), sectorsOf(d), sectorsOf(kept))
}

// wantDisk holds that nothing tells a disk from another one.
func wantDisk(t *testing.T, got, want *disk.Disk) {
	t.Helper()
	if shown(got) == shown(want) {
		return
	}
	for i := range got.Size() {
		a, _ := got.Has(i)
		b, _ := want.Has(i)
		if !bytes.Equal(a, b) {
			t.Fatalf("sector %d: %v; want %v", i, a, b)
		}
	}
	t.Fatalf("the disk: power %t, waits %v; want %t, %v, and as much done yet", got.Power(), got.Waits(), want.Power(), want.Waits())
}

// wantStore holds that a store, whose power is on, has what its model has.
func wantStore(t *testing.T, h *hot.Hot, m model) {
	t.Helper()
	if why := otherThan(t, h, m); why != "" {
		t.Fatal(why)
	}
}

// otherThan tells in what a store, whose power is on, is other than its model; nothing, if it is not.
func otherThan(t *testing.T, h *hot.Hot, m model) string {
	t.Helper()
	if got, want := h.IDs(), slices.Sorted(maps.Keys(m.blobs)); !slices.Equal(got, want) {
		return fmt.Sprintf("IDs: %v; want %v", got, want)
	}
	for id, b := range m.blobs {
		if got, e := h.Get(id); e != api.OK || !bytes.Equal(got, b.data) {
			return fmt.Sprintf("Get(%d): %d octets, %d; want %d octets", id, len(got), e, len(b.data))
		}
		if n, e := h.Size(id); n != len(b.data) || e != api.OK {
			return fmt.Sprintf("Size(%d): %d, %d; want %d", id, n, e, len(b.data))
		}
	}
	for _, id := range []uint64{0, 1, 77777, 1 << 32, 1<<63 + 9, greatest} {
		if _, there := m.blobs[id]; there {
			continue
		}
		if b, e := h.Get(id); e != api.ErrNone || len(b) != 0 {
			return fmt.Sprintf("Get(%d): %d octets, %d; want ErrNone", id, len(b), e)
		}
		if n, e := h.Size(id); e != api.ErrNone || n != 0 {
			return fmt.Sprintf("Size(%d): %d, %d; want ErrNone", id, n, e)
		}
	}
	used := m.used(t)
	if got := h.Used(); !slices.Equal(got, used) {
		return fmt.Sprintf("Used: %v; want %v", got, used)
	}
	if h.Total() != m.total || h.Free() != m.total-len(used) {
		return fmt.Sprintf("Total and Free: %d, %d; want %d, %d", h.Total(), h.Free(), m.total, m.total-len(used))
	}
	return ""
}

// source makes numbers, one from the other.
type source uint64

func (s *source) below(n int) int {
	*s = *s*6364136223846793005 + 1442695040888963407
	return int(uint64(*s)>>33) % n
}

// changes are some of few IDs, mostly such as may be for the model.
func (s *source) changes(m model) []api.Change {
	l := make([]api.Change, s.below(6))
	for k := range l {
		id := uint64(s.below(9))
		_, there := m.blobs[id]
		switch kind := s.below(30); {
		case kind == 0 || kind < 10 && there:
			l[k] = gone(id)
		case kind == 29:
			l[k] = api.Change{ID: id, Data: mixed(4033, 0)}
		case kind == 28:
			l[k] = put(id, s.below(4033))
		default:
			l[k] = api.Change{ID: id, Data: mixed(s.below(400), s.below(1<<30))}
		}
	}
	if s.below(12) > 0 {
		slices.SortFunc(l, func(a, b api.Change) int { return int(a.ID) - int(b.ID) })
		l = slices.CompactFunc(l, func(a, b api.Change) bool { return a.ID == b.ID })
		slices.Reverse(l)
	}
	return l
}
