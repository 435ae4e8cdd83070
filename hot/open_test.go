package hot_test

import (
	"bytes"
	"fmt"
	"slices"
	"strconv"
	"testing"

	"hamper/api"
	"hamper/disk"
	"hamper/hot"
	"hamper/tree"
)

// A sketch is what a disk is to have, whatever that comes to.
type sketch struct {
	size  int            // sectors
	pages map[int][]byte // what stands in pages of blobs
	pairs []api.Pair     // of the directory
	dir   []int          // its pages
}

// sketchOf is a sketch of one blob.
func sketchOf(size int, dir []int, data []byte, id uint64, pages []int) *sketch {
	s := &sketch{size: size, pages: map[int][]byte{}, dir: dir}
	s.add(data, id, pages...)
	return s
}

// add lays one more blob; it has a greater ID than the others.
func (s *sketch) add(data []byte, id uint64, pages ...int) {
	for k, b := range chainOf(data, pages) {
		s.pages[pages[k]] = b
	}
	s.pairs = append(s.pairs, pairOf(id, data, pages))
}

// disk is a disk of a sketch, on which each other sector has octets of its own.
func (s *sketch) disk(t *testing.T) *disk.Disk {
	t.Helper()
	d := noisy(t, s.size)
	lay(d, 0, make([]byte, api.Sector))
	for p, b := range s.pages {
		lay(d, 42+p, b)
	}
	sheets, e := tree.Build(s.pairs)
	if e != api.OK {
		t.Fatalf("Build: %d", e)
	}
	for k, p := range s.dir[:min(len(s.dir), len(sheets))] {
		lay(d, 42+p, sheets[k])
	}
	lay(d, 41, sealed(superOf(s.dir...)))
	return d
}

func lay(d *disk.Disk, i int, b []byte) {
	d.Write(i, b)
	d.Flush()
}

// wantForm holds that Open answers ErrForm, and changes nothing on a disk whose journal is empty.
func wantForm(t *testing.T, d *disk.Disk, what string) {
	t.Helper()
	before := sectorsOf(d)
	if h, e := hot.Open(d); e != api.ErrForm || h != nil {
		t.Errorf("Open of %s: %d; want ErrForm", what, e)
	}
	if !bytes.Equal(sectorsOf(d), before) {
		t.Errorf("Open of %s: the disk has changed", what)
	}
}

// P7.1: Open.

// Stores that no batch would have laid so, but that are as they have to be.
func TestOpen(t *testing.T) {
	data := mixed(300, 1)
	// Pages in any order, the last of the disk among them, and the directory behind or between them.
	for _, l := range [][]int{{2, 1, 0, 17}, {17, 3, 9, 0}, {0, 1, 2, 3}, {5, 17, 6, 16}} {
		s := sketchOf(60, l[3:], data, 9, l[:3])
		d := s.disk(t)
		b := &both{mustOpen(t, d), d, model{total: 18, blobs: map[uint64]blob{9: {data, l[:3]}}, dir: l[3:]}}
		wantStore(t, b.h, b.m)
		b.does(t, api.OK, put(9, 400))
		b.open(t)
		b.does(t, api.OK, gone(9))
	}
	// A directory of three pages, in any order.
	s := sketchOf(60, []int{8, 1, 5}, data, 1, []int{2, 7, 3})
	m := model{total: 18, blobs: map[uint64]blob{1: {data, []int{2, 7, 3}}}, dir: []int{8, 1, 5}}
	for id := range uint64(8) {
		s.add(nil, id+10)
		m.blobs[id+10] = blob{}
	}
	d := s.disk(t)
	wantStore(t, mustOpen(t, d), m)
}

// Of what stands behind a blob's octets in its last page nothing is asked.
func TestOpenFilling(t *testing.T) {
	data := mixed(130, 1)
	s := sketchOf(60, []int{0}, data, 1, []int{1, 2})
	s.pages[2] = append(s.pages[2][:2+4:2+4], mixed(122, 5)...)
	wantStore(t, mustOpen(t, s.disk(t)), model{total: 18, blobs: map[uint64]blob{1: {data, []int{1, 2}}}, dir: []int{0}})
}

// A checksum that is another one is told by Get alone; of no octets too.
func TestOpenOtherSum(t *testing.T) {
	s := sketchOf(60, []int{0}, mixed(130, 1), 1, []int{1, 2})
	s.add(nil, 2)
	s.add(mixed(5, 6), 3, 3)
	s.pairs[0].Val ^= 1 << 63
	s.pairs[1].Val ^= 1 << 32
	h := mustOpen(t, s.disk(t))
	for id, want := range map[uint64]api.Errno{1: api.ErrSum, 2: api.ErrSum, 3: api.OK} {
		if b, e := h.Get(id); e != want || (e != api.OK && len(b) != 0) {
			t.Errorf("Get(%d): %d octets, %d; want %d", id, len(b), e, want)
		}
	}
	if n, e := h.Size(1); n != 130 || e != api.OK {
		t.Errorf("Size: %d, %d", n, e)
	}
	if e := h.Batch([]api.Change{put(1, 130), put(2, 0)}); e != api.OK {
		t.Errorf("Batch: %d", e)
	}
	for id, n := range map[uint64]int{1: 130, 2: 0, 3: 5} {
		if b, e := h.Get(id); e != api.OK || len(b) != n {
			t.Errorf("Get(%d) behind a batch: %d octets, %d", id, len(b), e)
		}
	}
}

// TestOpenOfNoStore: disks on which nothing was formatted, or the journal alone.
func TestOpenOfNoStore(t *testing.T) {
	for _, n := range []int{44, 45, 60, 2048} {
		wantForm(t, newDisk(t, n), "zeros")
	}
	d := noisy(t, 60)
	if h, e := hot.Open(d); e != api.ErrForm || h != nil {
		t.Errorf("Open of anything: %d; want ErrForm", e)
	}
	// What was no head is the empty one now; that is all.
	want := noisy(t, 60)
	lay(want, 0, make([]byte, api.Sector))
	wantDisk(t, d, want)
}

func TestOpenSuperblock(t *testing.T) {
	s := sketchOf(60, []int{3}, mixed(130, 1), 1, []int{1, 2})
	good := s.disk(t)
	if _, e := hot.Open(good); e != api.OK {
		t.Fatalf("Open: %d", e)
	}
	super := sealed(superOf(3))
	for bit := range 8 * api.Sector {
		b := slices.Clone(super)
		b[bit/8] ^= 1 << (bit % 8)
		lay(good, 41, b)
		wantForm(t, good, "a superblock of which bit "+strconv.Itoa(bit)+" is another one")
	}
	// Each with the right checksum, but where it is that which is wrong.
	long := slices.Repeat([]int{3}, 70)
	for what, b := range map[string][]byte{
		"the mark hsuq":             sealed(append([]byte("hsuq"), superOf(3)[4:]...)),
		"the journal's mark":        sealed(append([]byte("tnlj"), superOf(3)[4:]...)),
		"no mark":                   sealed(superOf(3)[4:]),
		"no pages":                  sealed(superOf()),
		"one page less than told":   sealed(append([]byte("hsup\x02\x00"), 3, 0)),
		"one page more than told":   sealed(append([]byte("hsup\x01\x00"), 3, 0, 4, 0)),
		"255 pages, of which one":   sealed(append([]byte("hsup\xff\x00"), 3, 0)),
		"65535 pages, of which one": sealed(append([]byte("hsup\xff\xff"), 3, 0)),
		"60 pages":                  sealed(superOf(long[:60]...))[:128],
		"59 pages of which all are": sealed(superOf(long[:59]...)),
		"no checksum":               append(superOf(3), make([]byte, 120)...),
		"a checksum at the end":     append(append(superOf(3), make([]byte, 116)...), sealed(superOf(3))[8:12]...),
		"all sealed":                sealed(append(superOf(3), make([]byte, 116)...)),
		"something behind it":       append(sealed(superOf(3))[:127:127], 1),
		"zeros":                     make([]byte, 128),
		"a page of the directory":   mustHas(t, good, 45),
	} {
		lay(good, 41, b)
		wantForm(t, good, "a superblock of "+what)
	}
	lay(good, 41, super)
	mustOpen(t, good)
}

func mustHas(t *testing.T, d *disk.Disk, i int) []byte {
	t.Helper()
	b, e := d.Has(i)
	if e != api.OK {
		t.Fatalf("Has(%d): %d", i, e)
	}
	return b
}

// TestOpenOfNumbers: those of the directory's pages.
func TestOpenOfNumbers(t *testing.T) {
	s := sketchOf(60, []int{17, 4, 9}, mixed(130, 1), 1, []int{1, 2})
	for id := range uint64(8) {
		s.add(nil, id+10)
	}
	d := s.disk(t)
	mustOpen(t, d)
	for k := range 3 {
		for _, p := range []int{18, 19, 41, 42, 59, 60, 255, 2006, 32768, 65494, 65534, 65535} {
			l := slices.Clone(s.dir)
			l[k] = p
			lay(d, 41, sealed(superOf(l...)))
			wantForm(t, d, fmt.Sprintf("a directory in the pages %v", l))
		}
		for i := range 3 {
			if i != k {
				l := slices.Clone(s.dir)
				l[k] = l[i]
				lay(d, 41, sealed(superOf(l...)))
				wantForm(t, d, fmt.Sprintf("a directory in the pages %v", l))
			}
		}
	}
	// Where the same leaf in two pages would be the same octets, the page must be another one all the same.
	for _, l := range [][]int{{17}, {4}, {9}, {17, 4}, {4, 9}, {17, 9}, {4, 17, 9}, {9, 4, 17}, {17, 9, 4}, {17, 4, 9, 9}, {17, 4, 9, 3}, {17, 4, 4, 9}, {1, 17, 4, 9}, {1, 2, 3}, {5}} {
		lay(d, 41, sealed(superOf(l...)))
		if slices.Equal(l, []int{4}) {
			// The last leaf alone is a tree: that of its own blobs.
			h := mustOpen(t, d)
			if !slices.Equal(h.IDs(), []uint64{16, 17}) || !slices.Equal(h.Used(), []int{4}) {
				t.Errorf("the last leaf alone: %v, %v", h.IDs(), h.Used())
			}
			continue
		}
		if slices.Equal(l, []int{17}) {
			if h := mustOpen(t, d); len(h.IDs()) != 7 || !slices.Equal(h.Used(), []int{1, 2, 17}) {
				t.Errorf("the first leaf alone: %v, %v", h.IDs(), h.Used())
			}
			continue
		}
		wantForm(t, d, fmt.Sprintf("a directory in the pages %v", l))
	}
	lay(d, 41, sealed(superOf(17, 4, 9)))
	mustOpen(t, d)
}

// TestOpenOfTree: pages of the directory of which a bit is another one, and pages that are no tree.
func TestOpenOfTree(t *testing.T) {
	s := sketchOf(60, []int{3, 4, 5}, mixed(130, 1), 1, []int{1, 2})
	for id := range uint64(8) {
		s.add(nil, id+10)
	}
	d := s.disk(t)
	for _, p := range s.dir {
		was := mustHas(t, d, 42+p)
		for bit := range 8 * api.Sector {
			b := slices.Clone(was)
			b[bit/8] ^= 1 << (bit % 8)
			lay(d, 42+p, b)
			wantForm(t, d, fmt.Sprintf("a directory, page %d, bit %d", p, bit))
		}
		lay(d, 42+p, was)
	}
	mustOpen(t, d)
	// The page is a leaf of its own, but its IDs do not ascend.
	b := []byte{1, 2}
	for range 2 {
		b = append(b, make([]byte, 16)...)
	}
	lay(d, 42+9, sealed(b))
	lay(d, 41, sealed(superOf(9)))
	wantForm(t, d, "the ID 0 twice")
}

// TestOpenOfSizes: a blob may not have more than MaxBlob octets, though its chain is just as long.
func TestOpenOfSizes(t *testing.T) {
	pages := make([]int, 700)
	for k := range pages {
		pages[k] = k
	}
	for _, n := range []int{4032, 4033, 4034, 4158, 4159, 8192, 32768, 65535} {
		data := mixed(n, n)
		s := sketchOf(800, []int{750}, data, 1, pages[:(n+125)/126])
		d := s.disk(t)
		if n > 4032 {
			wantForm(t, d, strconv.Itoa(n)+" octets")
			continue
		}
		wantStore(t, mustOpen(t, d), model{total: 758, blobs: map[uint64]blob{1: {data, pages[:32]}}, dir: []int{750}})
	}
}

// TestOpenOfChains: chains of fewer and of more pages than the blob needs.
func TestOpenOfChains(t *testing.T) {
	for _, pages := range [][]int{nil, {6}, {3, 11}, {3, 11, 2, 8, 5}} {
		n := max(0, len(pages)*126-7)
		base := sketchOf(60, []int{0}, mixed(n, 1), 1, pages)
		d := base.disk(t)
		mustOpen(t, d)
		// Fewer: it ends early, or does not begin.
		for k := range pages {
			c := d.Clone()
			if k == 0 {
				s := sketchOf(60, []int{0}, mixed(n, 1), 1, pages)
				s.pairs[0].Val &^= 0xffff
				c = s.disk(t)
			} else {
				cutLink(c, pages[k-1], 0)
			}
			wantForm(t, c, fmt.Sprintf("a chain of %d pages that ends at %d", len(pages), k))
		}
		// More: it goes on behind its end, to a page that is free, or to one of whatever kind.
		for _, to := range append([]int{9, 0, 17, 18, 65534}, pages...) {
			c := d.Clone()
			if len(pages) == 0 {
				s := sketchOf(60, []int{0}, nil, 1, nil)
				s.pairs[0].Val |= uint64(to) + 1
				c = s.disk(t)
			} else {
				cutLink(c, pages[len(pages)-1], to+1)
			}
			wantForm(t, c, fmt.Sprintf("a chain of %d pages that goes on to %d", len(pages), to))
		}
		// The length is that of another number of pages.
		for _, size := range []int{0, 1, 126, 127, 252, 253, 630, 631, 4032, 4096, 4096 + 120, 4096 + 250, 8192, 8192 + 120, 16384 + 250, 32768, 32768 + 120, 65535} {
			s := sketchOf(60, []int{0}, mixed(n, 1), 1, pages)
			s.pairs[0].Val = s.pairs[0].Val&^0xffff0000 | uint64(size)<<16
			if (size+125)/126 != len(pages) {
				wantForm(t, s.disk(t), fmt.Sprintf("a chain of %d pages of %d octets", len(pages), size))
			} else if n, e := mustOpen(t, s.disk(t)).Size(1); n != size || e != api.OK {
				t.Errorf("Size: %d, %d; want %d", n, e, size)
			}
		}
	}
}

// cutLink makes the link of a page another one.
func cutLink(d *disk.Disk, p, link int) {
	b, _ := d.Read(42 + p)
	lay(d, 42+p, append([]byte{byte(link), byte(link >> 8)}, b[2:]...))
}

// TestOpenOfPagesOutside: a chain with a page that does not exist, at each place. Page 17 is the last one.
func TestOpenOfPagesOutside(t *testing.T) {
	for _, to := range []int{17, 18, 19, 58, 59, 60, 255, 256, 2006, 2047, 2048, 32767, 65493, 65494, 65534} {
		for k := range 3 {
			pages := []int{5, 6, 7}
			s := sketchOf(60, []int{0}, mixed(300, 1), 1, pages)
			if to == 17 {
				s.pages[17] = s.pages[pages[k]]
			}
			if k == 0 {
				s.pairs[0].Val = s.pairs[0].Val&^0xffff | uint64(to+1)
			} else {
				s.pages[pages[k-1]] = sheet(to+1, s.pages[pages[k-1]][2:])
			}
			d := s.disk(t)
			if to == 17 {
				if b, e := mustOpen(t, d).Get(1); e != api.OK || !bytes.Equal(b, mixed(300, 1)) {
					t.Errorf("Get by the last page: %d octets, %d", len(b), e)
				}
				continue
			}
			wantForm(t, d, fmt.Sprintf("a chain with page %d at %d", to, k))
		}
	}
}

// TestOpenOfPagesTwice: a page of a chain that is used otherwise: by the directory, by another blob, or by the chain itself.
func TestOpenOfPagesTwice(t *testing.T) {
	// Blob 1 is in 5, 6, 7; blob 2 in 10, 11, 12; the directory in 0.
	laid := func() *sketch {
		s := sketchOf(60, []int{0}, mixed(300, 1), 1, []int{5, 6, 7})
		s.add(mixed(300, 2), 2, 10, 11, 12)
		return s
	}
	mustOpen(t, laid().disk(t))
	for id, own := range [][]int{{5, 6, 7}, {10, 11, 12}} {
		for k := range 3 {
			for _, to := range []int{0, 5, 6, 7, 10, 11, 12} {
				if to == own[k] {
					continue
				}
				s := laid()
				if k == 0 {
					s.pairs[id].Val = s.pairs[id].Val&^0xffff | uint64(to+1)
				} else {
					s.pages[own[k-1]] = sheet(to+1, s.pages[own[k-1]][2:])
				}
				wantForm(t, s.disk(t), fmt.Sprintf("blob %d with page %d at %d", id+1, to, k))
			}
		}
	}
	// Two blobs that are the same, in the same pages.
	s := sketchOf(60, []int{0}, mixed(300, 1), 1, []int{5, 6, 7})
	s.add(mixed(300, 1), 2, 5, 6, 7)
	wantForm(t, s.disk(t), "two blobs in the same pages")
	// Two blobs that have the last page in common, which is right for each of them.
	s = sketchOf(60, []int{0}, mixed(130, 1), 1, []int{5, 6})
	s.add(append(mixed(126, 2), mixed(130, 1)[126:]...), 2, 7, 6)
	wantForm(t, s.disk(t), "two blobs with the last page in common")
	// A blob's page that is a page of the directory: the leaf's first octets are the link.
	s = sketchOf(60, []int{0}, mixed(300, 1), 1, []int{5, 6, 7})
	s.pairs = append(s.pairs, api.Pair{Key: 2, Val: 1 + 126<<16})
	wantForm(t, s.disk(t), "a blob in the directory's page")
	// A chain of which each page is the next one of itself, or of the other.
	for _, l := range [][]int{{5, 5}, {5, 6, 5}, {5, 6, 5, 6}, {5, 6, 6}} {
		s := sketchOf(60, []int{0}, mixed(len(l)*126, 1), 1, l)
		wantForm(t, s.disk(t), fmt.Sprintf("a chain of %v", l))
	}
}

// TestOpenOfManyPages: a directory of up to 59 pages has room in the superblock, though a batch makes none of more than 39.
func TestOpenOfManyPages(t *testing.T) {
	for _, n := range []int{245, 246, 300, 371} {
		s := &sketch{size: 200, pages: map[int][]byte{}}
		m := model{total: 158, blobs: map[uint64]blob{}}
		for id := range uint64(n) {
			s.add(nil, id)
			m.blobs[id] = blob{}
		}
		for k := range tree.Pages(n) {
			s.dir = append(s.dir, 157-2*k)
		}
		m.dir = s.dir
		d := s.disk(t)
		b := &both{mustOpen(t, d), d, m}
		wantStore(t, b.h, b.m)
		b.does(t, api.ErrArg, put(7, 1), put(7, 1))
		b.does(t, api.ErrNone, gone(uint64(n)))
		b.does(t, api.ErrFull, put(7, 1))
		b.does(t, api.ErrFull, empties(uint64(n), 600-n)...)
		b.does(t, api.ErrFull, empties(uint64(n), 601-n)...)
		b.does(t, api.ErrFull, empties(uint64(n-4), 605-n)...)
		var l []api.Change
		for id := range uint64(n - 200) {
			l = append(l, gone(id))
		}
		b.does(t, api.OK, l...)
		b.open(t)
	}
}

// TestOpenBesideBits: whatever bit of a store is another one, what is opened is a store each of whose pages is used once, and that has, but for its checksums, what it had.
func TestOpenBesideBits(t *testing.T) {
	s := made(t, 50)
	s.does(t, api.OK, put(1, 300), put(2, 1), put(3, 0))
	opened := 0
	for bit := 41 * 1024; bit < 50*1024; bit++ {
		d := s.d.Clone()
		b := mustHas(t, d, bit/1024)
		b[bit%1024/8] ^= 1 << (bit % 8)
		lay(d, bit/1024, b)
		h, e := hot.Open(d)
		if e != api.OK {
			if e != api.ErrForm || h != nil {
				t.Fatalf("bit %d: %d", bit, e)
			}
			continue
		}
		opened++
		if !slices.Equal(h.Used(), s.h.Used()) || !slices.Equal(h.IDs(), s.h.IDs()) {
			t.Fatalf("bit %d: used %v, IDs %v", bit, h.Used(), h.IDs())
		}
		for _, id := range h.IDs() {
			if b, e := h.Get(id); e != api.ErrSum && (e != api.OK || !bytes.Equal(b, s.m.blobs[id].data)) {
				t.Fatalf("bit %d: Get(%d): %d", bit, id, e)
			}
		}
	}
	if opened < 2000 {
		t.Errorf("%d were opened", opened)
	}
}

// TestOpenOfAny: whatever the pages are, Open comes to an end, and answers ErrForm or a store.
func TestOpenOfAny(t *testing.T) {
	next, opened := source(3), 0
	for range 4000 {
		s := &sketch{size: 44 + next.below(12), pages: map[int][]byte{}}
		total := s.size - 42
		for p := range total {
			s.pages[p] = sheet(next.below(total+2), mixed(126, p))
		}
		for id := range uint64(next.below(4)) {
			size := next.below(400)
			val := uint64(size) << 16
			if size > 0 || next.below(9) == 0 {
				val += uint64(next.below(total + 2))
			}
			s.pairs = append(s.pairs, api.Pair{Key: id, Val: val})
		}
		s.dir = []int{next.below(total)}
		d := s.disk(t)
		h, e := hot.Open(d)
		want := s.pagesOf()
		if (want == nil) != (e == api.ErrForm) || e != api.OK && e != api.ErrForm {
			t.Fatalf("Open of %v, %v: %d; want the pages %v", s.pairs, s.pages, e, want)
		}
		if e == api.OK {
			opened++
			if !slices.Equal(h.Used(), want) || h.Free() != total-len(want) {
				t.Fatalf("Open: used %v; want %v", h.Used(), want)
			}
		}
	}
	if opened < 400 || opened > 3600 {
		t.Errorf("%d of 4000 were opened", opened)
	}
}

// pagesOf are the pages that a sketch with a directory of one page uses, told by the chapter's words; nil, if it is none of a store.
func (s *sketch) pagesOf() []int {
	out := slices.Clone(s.dir)
	for _, p := range s.pairs {
		need := (int(p.Val>>16&0xffff) + 125) / 126
		link, has := int(p.Val&0xffff), 0
		for link != 0 {
			if link > s.size-42 || slices.Contains(out, link-1) || has == need {
				return nil
			}
			out = append(out, link-1)
			link = int(s.pages[link-1][0]) | int(s.pages[link-1][1])<<8
			has++
		}
		if has != need {
			return nil
		}
	}
	slices.Sort(out)
	return out
}
