package tree_test

import (
	"bytes"
	"encoding/binary"
	"hash/crc32"
	"math"
	"slices"
	"strconv"
	"testing"

	"hamper/api"
	"hamper/tree"
)

const greatest = math.MaxUint64

// A sheet is a page that is put together from its parts, whatever they are.
type sheet struct {
	kind    byte
	entries []api.Pair // of an inner page: the least key and the index of each child
	more    int        // what the count is greater by than the number of entries
	unseal  uint32     // what the checksum is changed by
	rest    []byte     // what stands behind the checksum
}

func leafOf(l ...api.Pair) sheet { return sheet{kind: 1, entries: l} }

func innerOf(l ...api.Pair) sheet { return sheet{kind: 2, entries: l} }

// octets are those of a sheet, filled with zeros to a sector.
func (s sheet) octets() []byte {
	b := []byte{s.kind, byte(len(s.entries) + s.more)}
	for _, p := range s.entries {
		b = binary.LittleEndian.AppendUint64(b, p.Key)
		if s.kind == 2 {
			b = binary.LittleEndian.AppendUint16(b, uint16(p.Val))
		} else {
			b = binary.LittleEndian.AppendUint64(b, p.Val)
		}
	}
	b = binary.LittleEndian.AppendUint32(b, crc32.ChecksumIEEE(b)^s.unseal)
	b = append(b, s.rest...)
	return append(b, make([]byte, max(0, api.Sector-len(b)))...)
}

func octetsOf(l ...sheet) [][]byte {
	var out [][]byte
	for _, s := range l {
		out = append(out, s.octets())
	}
	return out
}

// sheetsOf are the pages of a tree, told by the chapter's words.
func sheetsOf(l []api.Pair) []sheet {
	var out []sheet
	for i := 0; i == 0 || i < len(l); i += 7 {
		out = append(out, leafOf(l[i:min(i+7, len(l))]...))
	}
	least := func(at int) uint64 {
		for out[at].kind == 2 {
			at = int(out[at].entries[0].Val)
		}
		if len(out[at].entries) == 0 {
			return 0
		}
		return out[at].entries[0].Key
	}
	for from, to := 0, len(out); to-from > 1; from, to = to, len(out) {
		for i := from; i < to; i += 12 {
			var kids []api.Pair
			for at := i; at < min(i+12, to); at++ {
				kids = append(kids, api.Pair{Key: least(at), Val: uint64(at)})
			}
			out = append(out, innerOf(kids...))
		}
	}
	return out
}

// levelsOf is how many levels the tree of n pairs has.
func levelsOf(n int) int {
	switch {
	case n <= 7:
		return 1
	case n <= 7*12:
		return 2
	}
	return 3
}

// found is what Find answers in sheets that all are valid, told by the chapter's words.
func found(l []sheet, key uint64) (v uint64, reads int, e api.Errno) {
	if len(l) == 0 {
		return 0, 0, api.ErrShort
	}
	at := len(l) - 1
	for reads = 1; l[at].kind == 2; reads++ {
		next := -1
		for _, kid := range l[at].entries {
			if kid.Key <= key {
				next = int(kid.Val)
			}
		}
		if next < 0 {
			return 0, reads, api.ErrNone
		}
		if next >= at {
			return 0, 0, api.ErrForm
		}
		at = next
	}
	for _, p := range l[at].entries {
		if p.Key == key {
			return p.Val, reads, api.OK
		}
	}
	return 0, reads, api.ErrNone
}

// mixer answers numbers below one that is given, none of which follows simply from the one before it.
func mixer(seed int) func(below int) int {
	v := uint64(seed) + 1
	return func(below int) int {
		v = v*6364136223846793005 + 1442695040888963407
		return int(v>>33) % below
	}
}

// run is n pairs whose keys begin with first and ascend by step.
func run(n int, first, step uint64) []api.Pair {
	out := make([]api.Pair, n)
	for i := range out {
		out[i] = api.Pair{Key: first + uint64(i)*step, Val: uint64(i)*0x9e3779b97f4a7c15 + first}
	}
	return out
}

// apart is n pairs without order in how far their keys are apart, up to the greatest.
func apart(n int) []api.Pair {
	next, out := mixer(n), make([]api.Pair, n)
	key := uint64(greatest)
	for i := range out {
		out[n-1-i] = api.Pair{Key: key, Val: uint64(next(1 << 30))}
		key -= 1 + uint64(next(1<<(1+i%31)))<<(i%20)
	}
	return out
}

// lists are valid lists of n pairs, of several kinds.
func lists(n int) [][]api.Pair {
	out := [][]api.Pair{
		run(n, 0, 1),
		run(n, 1, 2),
		run(n, 0x0102030405060708, 0x1000000000000),
		run(n, greatest-uint64(n)+1, 1),
		apart(n),
	}
	if n > 1 {
		both := run(n, 0, 3)
		both[n-1].Key = greatest
		out = append(out, both)
	}
	if n > 0 {
		same := run(n, 5, 5)
		for i := range same {
			same[i].Val = greatest
		}
		out = append(out, same)
	}
	return out
}

func mustBuild(t *testing.T, l []api.Pair) [][]byte {
	t.Helper()
	pages, e := tree.Build(l)
	if e != api.OK {
		t.Fatalf("Build of %d pairs: %d", len(l), e)
	}
	return pages
}

func equal(a, b [][]byte) bool { return slices.EqualFunc(a, b, bytes.Equal) }

func cloned(pages [][]byte) [][]byte {
	out := slices.Clone(pages)
	for i := range out {
		out[i] = slices.Clone(out[i])
	}
	return out
}

// with is the pages with another one at a place.
func with(pages [][]byte, at int, b []byte) [][]byte {
	out := slices.Clone(pages)
	out[at] = b
	return out
}

// wantFind holds that Find answers so.
func wantFind(t *testing.T, what string, pages [][]byte, key, v uint64, reads int, e api.Errno) {
	t.Helper()
	got, n, err := tree.Find(pages, key)
	if got != v || n != reads || err != e {
		t.Errorf("%s: Find(%d): %d by %d reads, error %d; want %d by %d, error %d", what, key, got, n, err, v, reads, e)
	}
}

// wantAll holds that All answers those pairs.
func wantAll(t *testing.T, what string, pages [][]byte, l []api.Pair) {
	t.Helper()
	got, e := tree.All(pages)
	if e != api.OK || !slices.Equal(got, l) {
		t.Errorf("%s: All: %d pairs, error %d; want %d pairs", what, len(got), e, len(l))
	}
}

// wantNotAll holds that All answers ErrForm and no pairs.
func wantNotAll(t *testing.T, what string, pages [][]byte) {
	t.Helper()
	if got, e := tree.All(pages); e != api.ErrForm || len(got) != 0 {
		t.Errorf("%s: All: %d pairs, error %d; want ErrForm", what, len(got), e)
	}
}

// The chapter's examples.

func TestExamples(t *testing.T) {
	one := mustBuild(t, []api.Pair{{Key: 5, Val: 9}})
	if len(one) != 1 {
		t.Errorf("Build of (5, 9): %d pages", len(one))
	}
	wantFind(t, "(5, 9)", one, 5, 9, 1, api.OK)
	wantFind(t, "(5, 9)", one, 6, 0, 1, api.ErrNone)
	eight := mustBuild(t, run(8, 1, 2))
	if len(eight) != 3 || eight[0][0] != 1 || eight[0][1] != 7 || eight[1][0] != 1 || eight[1][1] != 1 || eight[2][0] != 2 || eight[2][1] != 2 {
		t.Errorf("Build of 8 pairs: %v", eight)
	}
	for _, p := range run(8, 1, 2) {
		wantFind(t, "8 pairs", eight, p.Key, p.Val, 2, api.OK)
	}
	if n := tree.Pages(600); n != 95 {
		t.Errorf("Pages(600): %d", n)
	}
}

// P6.1: Pages.

func TestPages(t *testing.T) {
	for n, want := range map[int]int{
		0: 1, 1: 1, 6: 1, 7: 1, 8: 3, 14: 3, 15: 4, 83: 13, 84: 13, 85: 16, 91: 16, 92: 17,
		168: 24 + 2 + 1, 169: 25 + 3 + 1, 595: 85 + 8 + 1, 596: 86 + 8 + 1, 599: 95, 600: 95,
	} {
		if got := tree.Pages(n); got != want {
			t.Errorf("Pages(%d): %d; want %d", n, got, want)
		}
	}
	for n := range 601 {
		if got, want := tree.Pages(n), len(sheetsOf(run(n, 0, 1))); got != want {
			t.Errorf("Pages(%d): %d; want %d", n, got, want)
		}
	}
}

func TestPagesOfWrongNumber(t *testing.T) {
	for _, n := range []int{-1, -2, -7, -12, -600, math.MinInt32, math.MinInt, math.MinInt + 1, -1 << 32, 601, 602, 1000, 1 << 16, 1 << 32, 1<<32 + 1, 1<<32 + 600, math.MaxInt32, math.MaxInt - 6, math.MaxInt - 1, math.MaxInt} {
		if got := tree.Pages(n); got != 0 {
			t.Errorf("Pages(%d): %d; want 0", n, got)
		}
	}
}

// P6.1: Build.

// TestBuildOctets: the pages of eight pairs, octet by octet.
func TestBuildOctets(t *testing.T) {
	var l []api.Pair
	for i := range 8 {
		l = append(l, api.Pair{Key: uint64(i), Val: uint64(10 + i)})
	}
	l[7] = api.Pair{Key: 0x0102030405060708, Val: 0xf1f2f3f4f5f6f7f8}
	first := []byte{1, 7}
	for i := range 7 {
		first = append(first, byte(i), 0, 0, 0, 0, 0, 0, 0, byte(10+i), 0, 0, 0, 0, 0, 0, 0)
	}
	second := []byte{1, 1, 8, 7, 6, 5, 4, 3, 2, 1, 0xf8, 0xf7, 0xf6, 0xf5, 0xf4, 0xf3, 0xf2, 0xf1}
	root := []byte{2, 2, 0, 0, 0, 0, 0, 0, 0, 0, 0, 0, 8, 7, 6, 5, 4, 3, 2, 1, 1, 0}
	got := mustBuild(t, l)
	if len(got) != 3 {
		t.Fatalf("%d pages; want 3", len(got))
	}
	for i, b := range [][]byte{first, second, root} {
		sum := crc32.ChecksumIEEE(b)
		b = append(b, byte(sum), byte(sum>>8), byte(sum>>16), byte(sum>>24))
		for len(b) < 128 {
			b = append(b, 0)
		}
		if !bytes.Equal(got[i], b) {
			t.Errorf("page %d: %v; want %v", i, got[i], b)
		}
	}
}

func TestBuildOfNoPairs(t *testing.T) {
	want := make([]byte, 128)
	want[0] = 1
	binary.LittleEndian.PutUint32(want[2:], crc32.ChecksumIEEE([]byte{1, 0}))
	for _, l := range [][]api.Pair{nil, {}} {
		if got := mustBuild(t, l); !equal(got, [][]byte{want}) {
			t.Errorf("Build of no pairs: %v", got)
		}
	}
}

func TestBuild(t *testing.T) {
	for n := range 601 {
		for k, l := range lists(n) {
			got := mustBuild(t, l)
			if len(got) != tree.Pages(n) {
				t.Fatalf("Build of %d pairs: %d pages; Pages: %d", n, len(got), tree.Pages(n))
			}
			if !equal(got, octetsOf(sheetsOf(l)...)) {
				t.Fatalf("Build of %d pairs, list %d: other pages than the chapter tells", n, k)
			}
		}
	}
}

func TestBuildOfWrongList(t *testing.T) {
	wrong := map[string][]api.Pair{
		"a key twice":                {{Key: 2, Val: 1}, {Key: 2, Val: 2}},
		"a pair twice":               {{Key: 2, Val: 1}, {Key: 2, Val: 1}},
		"keys that descend":          {{Key: 2}, {Key: 1}},
		"the key 0 twice":            {{}, {}},
		"the greatest key twice":     {{Key: greatest}, {Key: greatest}},
		"the greatest key and 0":     {{Key: greatest}, {}},
		"keys that descend as signs": {{Key: 1 << 63}, {Key: 1<<63 - 1}},
		"601 pairs":                  run(601, 1, 1),
		"602 pairs":                  run(602, 1, 1),
		"7 times 12 times 12":        run(7*12*12, 1, 1),
		"many pairs":                 run(70000, 1, 1),
		"601 pairs of one key":       run(601, 1, 0),
	}
	for _, n := range []int{3, 7, 8, 84, 85, 600} {
		for _, k := range []int{1, 2, 6, 7, 8, n / 2, n - 1} {
			if k >= n {
				continue
			}
			for what, key := range map[string]uint64{"that of the one before": uint64(2*k - 1), "below the one before": uint64(2*k - 2), "0": 0} {
				l := run(n, 1, 2)
				l[k].Key = key
				wrong[strconv.Itoa(n)+" pairs, key "+strconv.Itoa(k)+" is "+what] = l
			}
		}
	}
	for what, l := range wrong {
		before := slices.Clone(l)
		if pages, e := tree.Build(l); e != api.ErrArg || len(pages) != 0 {
			t.Errorf("Build of %s: %d pages, error %d; want ErrArg", what, len(pages), e)
		}
		if !slices.Equal(l, before) {
			t.Errorf("Build of %s: the pairs have changed", what)
		}
	}
}

// TestBuildComparesUnsigned: keys of which the upper ones are below 0 if taken with a sign.
func TestBuildComparesUnsigned(t *testing.T) {
	l := []api.Pair{{Key: 0, Val: 1}, {Key: 1<<63 - 1, Val: 2}, {Key: 1 << 63, Val: 3}, {Key: greatest, Val: 4}}
	pages := mustBuild(t, l)
	for _, p := range l {
		wantFind(t, "keys of both signs", pages, p.Key, p.Val, 1, api.OK)
	}
	far := []api.Pair{{Key: 1<<63 - 8}}
	far = append(far, run(20, 1<<63-7, 1)...)
	pages = mustBuild(t, far)
	for _, p := range far {
		wantFind(t, "keys of both signs", pages, p.Key, p.Val, 2, api.OK)
	}
}

// P6.2: Find.

func TestFindInNothing(t *testing.T) {
	for _, key := range []uint64{0, 1, greatest} {
		wantFind(t, "no pages", nil, key, 0, 0, api.ErrShort)
		wantFind(t, "no pages", [][]byte{}, key, 0, 0, api.ErrShort)
	}
}

// notValid are pages that are not valid, each for one reason alone.
func notValid() map[string][]byte {
	pair := api.Pair{Key: 3, Val: 4}
	leaf, inner := leafOf(pair, api.Pair{Key: 5}), innerOf(api.Pair{Key: 3}, api.Pair{Key: 4})
	full, wide := leafOf(run(7, 1, 1)...), innerOf(run(12, 1, 0)...)
	out := map[string][]byte{
		"no octets":                    {},
		"nil":                          nil,
		"a sector of zeros":            make([]byte, 128),
		"an inner page of no children": innerOf().octets(),
		"eight pairs":                  sheet{kind: 1, entries: run(7, 1, 1), more: 1}.octets(),
		"255 pairs":                    sheet{kind: 1, entries: run(7, 1, 1), more: 248}.octets(),
		"13 children, of which 12":     sheet{kind: 2, entries: run(12, 1, 0), more: 1}.octets(),
		"255 children, of which 12":    sheet{kind: 2, entries: run(12, 1, 0), more: 243}.octets(),
		"one pair more than counted":   sheet{kind: 1, entries: []api.Pair{pair, pair}, more: -1}.octets(),
		"one pair less than counted":   sheet{kind: 1, entries: []api.Pair{pair}, more: 1}.octets(),
		"a child more than counted":    sheet{kind: 2, entries: []api.Pair{pair, pair}, more: -1}.octets(),
		"a child less than counted":    sheet{kind: 2, entries: []api.Pair{pair}, more: 1}.octets(),
	}
	// Eight pairs are too many for a sector, 13 children too; but a count can say so, with a checksum where it would stand.
	for count := 8; count < 256; count += 1 + count/9 {
		b := []byte{1, byte(count)}
		b = binary.LittleEndian.AppendUint32(b, crc32.ChecksumIEEE(b))
		out["a leaf of "+strconv.Itoa(count)+" pairs that are not there"] = append(b, make([]byte, 122)...)
	}
	for _, kind := range []byte{0, 3, 4, 127, 128, 129, 130, 254, 255} {
		out["the kind "+strconv.Itoa(int(kind))] = sheet{kind: kind, entries: []api.Pair{pair}}.octets()
		out["the kind "+strconv.Itoa(int(kind))+" and no entries"] = sheet{kind: kind}.octets()
	}
	for name, s := range map[string]sheet{"a leaf": leaf, "an inner page": inner, "a full leaf": full, "a full inner page": wide, "a leaf of no pairs": leafOf()} {
		b := s.octets()
		for _, n := range []int{1, 2, 5, 6, 40, 64, 118, 126, 127} {
			out[name+" of "+strconv.Itoa(n)+" octets"] = b[:n]
		}
		out[name+" of 129 octets"] = append(slices.Clone(b), 0)
		out[name+" of 256 octets"] = append(slices.Clone(b), make([]byte, 128)...)
		out[name+" twice"] = append(slices.Clone(b), b...)
		for _, wrong := range []uint32{1, 0x100, 0x10000, 0x80000000, math.MaxUint32} {
			other := s
			other.unseal = wrong
			out[name+" of a checksum changed by "+strconv.Itoa(int(wrong))] = other.octets()
		}
		for at := len(bytes.TrimRight(b, "\x00")); at < 128; at++ {
			more := slices.Clone(b)
			more[at] = byte(1 + at)
			out[name+" with an octet at "+strconv.Itoa(at)] = more
		}
		other := s
		other.rest = []byte{0, 0}
		out[name+" of 130 octets"] = append(other.octets(), 0, 0)
	}
	return out
}

func TestFindInPageThatIsNotValid(t *testing.T) {
	low := leafOf(run(7, 0, 1)...).octets()
	root := innerOf(api.Pair{Key: 0, Val: 0}, api.Pair{Key: 8, Val: 1}).octets()
	for what, b := range notValid() {
		before := slices.Clone(b)
		for _, key := range []uint64{0, 3, 5, 9, greatest} {
			wantFind(t, what+" as the root", [][]byte{b}, key, 0, 0, api.ErrForm)
			wantFind(t, what+" as the root above a leaf", [][]byte{low, b}, key, 0, 0, api.ErrForm)
			wantFind(t, what+" two levels below the root", [][]byte{low, b, innerOf(api.Pair{Val: 1}).octets(), innerOf(api.Pair{Val: 2}).octets()}, key, 0, 0, api.ErrForm)
		}
		// It is an error only where it is read.
		wantFind(t, what+" as a child", [][]byte{low, b, root}, 8, 0, 0, api.ErrForm)
		wantFind(t, what+" as another child", [][]byte{low, b, root}, 3, run(7, 0, 1)[3].Val, 2, api.OK)
		wantFind(t, what+" as another child", [][]byte{low, b, root}, 7, 0, 2, api.ErrNone)
		wantNotAll(t, what, [][]byte{b})
		wantNotAll(t, what+" ahead of a leaf", [][]byte{b, low})
		wantNotAll(t, what+" behind a leaf", [][]byte{low, b})
		if !bytes.Equal(b, before) {
			t.Errorf("%s: the page has changed", what)
		}
	}
}

// TestEveryBitCounts: a page of which one bit is another one is not valid.
func TestEveryBitCounts(t *testing.T) {
	for _, n := range []int{0, 1, 6, 7, 13, 84, 91} {
		l := run(n, 1, 2)
		pages := mustBuild(t, l)
		for _, at := range []int{0, tree.Pages(n) - 1, tree.Pages(n) / 2} {
			for bit := range 8 * api.Sector {
				b := slices.Clone(pages[at])
				b[bit/8] ^= 1 << (bit % 8)
				what := strconv.Itoa(n) + " pairs, page " + strconv.Itoa(at) + ", bit " + strconv.Itoa(bit)
				wantNotAll(t, what, with(pages, at, b))
				wantFind(t, what, [][]byte{b}, 1, 0, 0, api.ErrForm)
			}
		}
	}
}

func TestFindChildThatIsNotBelow(t *testing.T) {
	leaf := leafOf(api.Pair{Key: 1, Val: 5})
	to := func(l ...uint64) sheet {
		var kids []api.Pair
		for i, at := range l {
			kids = append(kids, api.Pair{Key: uint64(i), Val: at})
		}
		return innerOf(kids...)
	}
	for _, at := range []uint64{2, 3, 4, 255, 256, 32768, 65535} {
		pages := octetsOf(leaf, leaf, to(0, at, 1))
		wantFind(t, "the index "+strconv.Itoa(int(at)), pages, 1, 0, 0, api.ErrForm)
		wantFind(t, "the index "+strconv.Itoa(int(at))+" of a child that is not asked", pages, 0, 0, 2, api.ErrNone)
		wantFind(t, "the index "+strconv.Itoa(int(at))+" of a child that is not asked", octetsOf(leaf, leaf, to(at, 1)), 1, 5, 2, api.OK)
	}
	wantFind(t, "the root within itself", octetsOf(to(0)), 0, 0, 0, api.ErrForm)
	wantFind(t, "a page within itself", octetsOf(leaf, to(1), to(1)), 1, 0, 0, api.ErrForm)
	wantFind(t, "a page within a later one", octetsOf(leaf, to(2), to(1)), 1, 0, 0, api.ErrForm)
	wantFind(t, "two pages, each within the other one", octetsOf(leaf, to(2), to(1), to(2)), 1, 0, 0, api.ErrForm)
	wantFind(t, "the page ahead", octetsOf(leaf, to(0), to(1)), 1, 5, 3, api.OK)
	wantFind(t, "a page ahead of the page ahead", octetsOf(leaf, leafOf(), to(0)), 1, 5, 2, api.OK)
	// Where there is no child for the key, none is asked for its index.
	wantFind(t, "no child and a wrong index", octetsOf(innerOf(api.Pair{Key: 7, Val: 9})), 6, 0, 1, api.ErrNone)
	wantFind(t, "a child and a wrong index", octetsOf(innerOf(api.Pair{Key: 7, Val: 9})), 7, 0, 0, api.ErrForm)
}

// TestFindFirstPair: of equal keys in a leaf, and of keys in any order.
func TestFindFirstPair(t *testing.T) {
	pages := octetsOf(leafOf(api.Pair{Key: 9, Val: 1}, api.Pair{Key: 4, Val: 2}, api.Pair{Key: 9, Val: 3}, api.Pair{Key: 4, Val: 4}, api.Pair{Key: 1, Val: 5}, api.Pair{Key: greatest, Val: 6}, api.Pair{Val: 7}))
	for key, v := range map[uint64]uint64{9: 1, 4: 2, 1: 5, greatest: 6, 0: 7} {
		wantFind(t, "keys in any order", pages, key, v, 1, api.OK)
	}
	for _, key := range []uint64{2, 3, 5, 8, 10, greatest - 1} {
		wantFind(t, "keys in any order", pages, key, 0, 1, api.ErrNone)
	}
	wantNotAll(t, "keys in any order", pages)
}

// TestFindLastChild: of equal least keys, and of least keys in any order.
func TestFindLastChild(t *testing.T) {
	leaf := func(v uint64) sheet {
		var l []api.Pair
		for _, key := range []uint64{0, 1, 3, 5, 7, 9, greatest} {
			l = append(l, api.Pair{Key: key, Val: v})
		}
		return leafOf(l...)
	}
	kids := innerOf(api.Pair{Key: 9, Val: 0}, api.Pair{Key: 3, Val: 1}, api.Pair{Key: 3, Val: 2}, api.Pair{Key: 7, Val: 3}, api.Pair{Key: 5, Val: 4}, api.Pair{Key: greatest, Val: 5})
	pages := octetsOf(leaf(0), leaf(1), leaf(2), leaf(3), leaf(4), leaf(5), kids)
	for key, v := range map[uint64]uint64{3: 2, 5: 4, 7: 4, 9: 4, greatest: 5} {
		wantFind(t, "least keys in any order", pages, key, v, 2, api.OK)
	}
	wantFind(t, "least keys in any order", pages, 1, 0, 1, api.ErrNone)
	wantFind(t, "least keys in any order", pages, 0, 0, 1, api.ErrNone)
	wantFind(t, "least keys in any order", pages, 4, 0, 2, api.ErrNone)
	// Descending least keys: the last child alone has the key, or an earlier one.
	kids = innerOf(api.Pair{Key: 1, Val: 0}, api.Pair{Key: 9, Val: 1}, api.Pair{Key: 7, Val: 2}, api.Pair{Key: 5, Val: 3})
	pages = octetsOf(leaf(0), leaf(1), leaf(2), leaf(3), kids)
	for key, v := range map[uint64]uint64{1: 0, 3: 0, 5: 3, 7: 3, 9: 3} {
		wantFind(t, "least keys that descend", pages, key, v, 2, api.OK)
	}
}

// TestFindWithoutChild: below the least key of an inner page, at each level.
func TestFindWithoutChild(t *testing.T) {
	low := leafOf(api.Pair{Key: 1, Val: 5})
	pages := octetsOf(low, innerOf(api.Pair{Key: 6}), innerOf(api.Pair{Key: 4, Val: 1}), innerOf(api.Pair{Key: 2, Val: 2}))
	for key, reads := range map[uint64]int{0: 1, 1: 1, 2: 2, 3: 2, 4: 3, 5: 3, 6: 4, greatest: 4} {
		wantFind(t, "no child", pages, key, 0, reads, api.ErrNone)
	}
	// A leaf of no pairs may be a child in pages that Build did not make.
	wantFind(t, "a leaf of no pairs", octetsOf(leafOf(), innerOf(api.Pair{})), 0, 0, 2, api.ErrNone)
}

// TestFindInManyPages: as many reads as there are pages, and a child of the greatest index.
func TestFindInManyPages(t *testing.T) {
	const n = 65537
	chain := octetsOf(leafOf(api.Pair{Key: 1, Val: 5}))
	for i := range n - 1 {
		chain = append(chain, innerOf(api.Pair{Key: 1, Val: uint64(min(i, 65535))}).octets())
	}
	wantFind(t, "a page for each child", chain, 1, 5, n, api.OK)
	wantFind(t, "a page for each child", chain, 2, 0, n, api.ErrNone)
	wantFind(t, "a page for each child", chain, 0, 0, 1, api.ErrNone)
	wantFind(t, "a page for each child, without a leaf", with(chain, 0, nil), 1, 0, 0, api.ErrForm)
	wantNotAll(t, "a page for each child", chain)
	wide := make([][]byte, 70000)
	wide[65535] = chain[0]
	wide[69999] = chain[n-1]
	wantFind(t, "a child of the greatest index", wide, 1, 5, 2, api.OK)
}

// TestFindBesideModel: pages that each are valid, put together without order.
func TestFindBesideModel(t *testing.T) {
	next := mixer(6)
	told := map[api.Errno]int{}
	for range 20000 {
		sheets := make([]sheet, 1+next(7))
		for at := range sheets {
			sheets[at].kind = byte(1 + min(1, next(4)))
			n := next(1 + api.LeafKeys)
			if sheets[at].kind == 2 {
				n = 1 + next(api.InnerKid)
			}
			for range n {
				sheets[at].entries = append(sheets[at].entries, api.Pair{Key: uint64(next(9)), Val: uint64(max(0, next(at+2)-next(2)))})
			}
		}
		pages := octetsOf(sheets...)
		for key := range uint64(10) {
			v, reads, e := found(sheets, key)
			told[e]++
			wantFind(t, "pages without order", pages, key, v, reads, e)
		}
		if t.Failed() {
			t.Fatalf("%v", sheets)
		}
	}
	for _, e := range []api.Errno{api.OK, api.ErrNone, api.ErrForm} {
		if told[e] < 1000 {
			t.Errorf("error %d was asked for only %d times", e, told[e])
		}
	}
}

// TestAnyOctets: whatever the pages are, both functions come to an end and answer no error of another kind.
func TestAnyOctets(t *testing.T) {
	next := mixer(7)
	good := mustBuild(t, run(100, 1, 2))
	for range 3000 {
		pages := make([][]byte, next(6))
		for at := range pages {
			pages[at] = make([]byte, api.Sector+max(0, next(9)-7)-max(0, next(9)-7))
			for i := range pages[at] {
				pages[at][i] = byte(next(256))
			}
			if next(2) == 0 {
				pages[at] = slices.Clone(good[next(len(good))])
			}
			if next(2) == 0 {
				pages[at][0] = byte(next(4))
				pages[at][1] = byte(next(16))
			}
		}
		v, reads, e := tree.Find(pages, uint64(next(250)))
		if reads < 0 || reads > len(pages) || (e != api.OK && v != 0) || (reads == 0) != (e == api.ErrForm || e == api.ErrShort) {
			t.Fatalf("Find in %v: %d by %d reads, error %d", pages, v, reads, e)
		}
		if l, e := tree.All(pages); e != api.OK && (e != api.ErrForm || len(l) != 0) {
			t.Fatalf("All of %v: %d pairs, error %d", pages, len(l), e)
		}
	}
}

// P6.3: All.

func TestAll(t *testing.T) {
	for n := range 601 {
		for k, l := range lists(n) {
			wantAll(t, strconv.Itoa(n)+" pairs, list "+strconv.Itoa(k), octetsOf(sheetsOf(l)...), l)
		}
	}
}

func TestAllOfNothing(t *testing.T) {
	wantNotAll(t, "no pages", nil)
	wantNotAll(t, "no pages", [][]byte{})
	wantAll(t, "a leaf of no pairs", octetsOf(leafOf()), nil)
}

// TestAllOfWrongNumberOfPages: one page too many or too few, at each place.
func TestAllOfWrongNumberOfPages(t *testing.T) {
	for _, n := range []int{0, 1, 7, 8, 14, 15, 84, 85, 168, 169, 599, 600} {
		pages := mustBuild(t, run(n, 1, 2))
		more := append(octetsOf(leafOf(), leafOf(run(3, 5000, 1)...), leafOf(run(7, 5000, 1)...), innerOf(api.Pair{Key: 1})), pages[0], pages[len(pages)-1])
		for at := range len(pages) + 1 {
			what := strconv.Itoa(n) + " pairs, at page " + strconv.Itoa(at)
			if at < len(pages) && len(pages) > 1 {
				wantNotAll(t, what+" one too few", slices.Delete(slices.Clone(pages), at, at+1))
			}
			for _, b := range more {
				wantNotAll(t, what+" one too many", slices.Insert(slices.Clone(pages), at, b))
			}
			// The first leaf alone is the tree of its pairs, but several pages ahead are none.
			if at > 1 && at < len(pages) {
				wantNotAll(t, what+" the pages ahead alone", pages[:at])
			}
		}
		wantNotAll(t, strconv.Itoa(n)+" pairs twice", append(slices.Clone(pages), pages...))
	}
}

func TestAllOfExchangedPages(t *testing.T) {
	for _, n := range []int{8, 14, 20, 84, 85, 170, 600} {
		pages := mustBuild(t, run(n, 1, 2))
		for i := range pages {
			for k := range i {
				other := slices.Clone(pages)
				other[i], other[k] = other[k], other[i]
				wantNotAll(t, strconv.Itoa(n)+" pairs, two pages exchanged", other)
			}
		}
		turned := slices.Clone(pages)
		slices.Reverse(turned)
		wantNotAll(t, strconv.Itoa(n)+" pairs, the other way round", turned)
	}
}

// TestAllOfOtherSheets: pages of which each is valid, but one is not that of the tree.
func TestAllOfOtherSheets(t *testing.T) {
	// Each change tells whether it can be made.
	changes := map[string]func(s *sheet) bool{
		"one entry less": func(s *sheet) bool {
			if len(s.entries) == 1 && s.kind == 2 || len(s.entries) == 0 {
				return false
			}
			s.entries = s.entries[:len(s.entries)-1]
			return true
		},
		"the first entry less": func(s *sheet) bool {
			if len(s.entries) < 2 {
				return false
			}
			s.entries = s.entries[1:]
			return true
		},
		"the last entry twice": func(s *sheet) bool {
			if len(s.entries) == 0 || s.kind == 1 && len(s.entries) == 7 || len(s.entries) == 12 {
				return false
			}
			s.entries = append(s.entries, s.entries[len(s.entries)-1])
			return true
		},
		"two entries exchanged": func(s *sheet) bool {
			if len(s.entries) < 2 {
				return false
			}
			s.entries[0], s.entries[1] = s.entries[1], s.entries[0]
			return true
		},
		"a greater first key": func(s *sheet) bool { s.entries[0].Key++; return true },
		"a smaller first key": func(s *sheet) bool { s.entries[0].Key--; return true },
		"a greater last key": func(s *sheet) bool {
			s.entries[len(s.entries)-1].Key++
			return s.kind == 2
		},
		"another first index": func(s *sheet) bool { s.entries[0].Val ^= 1; return s.kind == 2 },
		"another last index":  func(s *sheet) bool { s.entries[len(s.entries)-1].Val += 256; return s.kind == 2 },
	}
	for _, n := range []int{8, 14, 15, 20, 84, 85, 86, 170, 600} {
		l := run(n, 10, 10)
		count := len(sheetsOf(l))
		for at := range count {
			for what, change := range changes {
				sheets := sheetsOf(l)
				sheets[at].entries = slices.Clone(sheets[at].entries)
				// A last leaf that ends earlier is that of fewer pairs, unless it has none left.
				last := at == (n+6)/7-1 && (what == "one entry less" && n%7 != 1)
				if last || !change(&sheets[at]) {
					continue
				}
				wantNotAll(t, strconv.Itoa(n)+" pairs, page "+strconv.Itoa(at)+", "+what, octetsOf(sheets...))
			}
		}
	}
}

// TestAllOfLeavesThatAreNotFull: in each tree the least keys are right, but the pairs are laid otherwise.
func TestAllOfLeavesThatAreNotFull(t *testing.T) {
	l := run(14, 1, 1)
	kids := func(cut ...int) sheet {
		out := innerOf()
		for at, i := range cut {
			out.entries = append(out.entries, api.Pair{Key: l[i].Key, Val: uint64(at)})
		}
		return out
	}
	wantAll(t, "7 and 7", octetsOf(leafOf(l[:7]...), leafOf(l[7:]...), kids(0, 7)), l)
	wantAll(t, "7 and 6", octetsOf(leafOf(l[:7]...), leafOf(l[7:13]...), kids(0, 7)), l[:13])
	wantNotAll(t, "6 and 7", octetsOf(leafOf(l[:6]...), leafOf(l[6:13]...), kids(0, 6)))
	wantNotAll(t, "4 and 4", octetsOf(leafOf(l[:4]...), leafOf(l[4:8]...), kids(0, 4)))
	wantNotAll(t, "1 and 6", octetsOf(leafOf(l[:1]...), leafOf(l[1:7]...), kids(0, 1)))
	wantNotAll(t, "3 and 4 without a root", octetsOf(leafOf(l[:3]...), leafOf(l[3:7]...)))
	wantNotAll(t, "7 and 0", octetsOf(leafOf(l[:7]...), leafOf(), innerOf(api.Pair{Key: 1}, api.Pair{Key: 0, Val: 1})))
	wantNotAll(t, "0 and 7", octetsOf(leafOf(), leafOf(l[:7]...), innerOf(api.Pair{Key: 0}, api.Pair{Key: 1, Val: 1})))
	wantNotAll(t, "a root above one leaf", octetsOf(leafOf(l[:7]...), kids(0)))
	wantNotAll(t, "a root above a leaf of no pairs", octetsOf(leafOf(), innerOf(api.Pair{})))
	wantNotAll(t, "two roots", octetsOf(leafOf(l[:7]...), leafOf(l[7:]...), kids(0, 7), innerOf(api.Pair{Key: 1, Val: 2})))
	wantNotAll(t, "the root between", octetsOf(leafOf(l[:7]...), kids(0, 7), leafOf(l[7:]...)))
	wantNotAll(t, "leaves that overlap", octetsOf(leafOf(l[:7]...), leafOf(l[6:13]...), kids(0, 6)))
	wantNotAll(t, "the same leaf twice", octetsOf(leafOf(l[:7]...), leafOf(l[:7]...), kids(0, 0)))
	wantNotAll(t, "an inner page alone", octetsOf(kids(0)))
	// 85 pairs in leaves of which all but one are full, and in inner pages of which the first is not full.
	l = run(91, 1, 1)
	sheets := sheetsOf(l)
	sheets[13].entries, sheets[14].entries = sheets[13].entries[:11], append([]api.Pair{sheets[13].entries[11]}, sheets[14].entries...)
	sheets[15].entries[1].Key = sheets[14].entries[0].Key
	wantNotAll(t, "an inner page that is not full", octetsOf(sheets...))
}

// TestAllOfTooManyPairs: the tree of 601 pairs and more, as Build would have made it.
func TestAllOfTooManyPairs(t *testing.T) {
	for _, n := range []int{601, 602, 603, 608, 609, 672, 700, 1008, 1009} {
		l := run(n, 1, 2)
		pages := octetsOf(sheetsOf(l)...)
		wantNotAll(t, strconv.Itoa(n)+" pairs", pages)
		// Find does not ask for that.
		if n <= 1008 {
			wantFind(t, strconv.Itoa(n)+" pairs", pages, l[n-1].Key, l[n-1].Val, 3, api.OK)
		}
	}
	full := leafOf(run(7, 1, 1)...).octets()
	wantNotAll(t, "very many leaves", slices.Repeat([][]byte{full}, 1<<20))
	wantNotAll(t, "very many leaves of no pairs", slices.Repeat([][]byte{leafOf().octets()}, 1<<20))
}

// P6.4: consequence.

func TestEveryKeyIsFound(t *testing.T) {
	for n := range 601 {
		for k, l := range lists(n) {
			if n > 100 && (n+k)%17 != 0 && n < 598 {
				continue
			}
			wantAllFound(t, l)
		}
	}
}

// wantAllFound holds that in the tree of a list every key is found, and none that is beside one.
func wantAllFound(t *testing.T, l []api.Pair) {
	t.Helper()
	pages, levels := mustBuild(t, l), levelsOf(len(l))
	there := map[uint64]bool{}
	for _, p := range l {
		there[p.Key] = true
		wantFind(t, strconv.Itoa(len(l))+" pairs", pages, p.Key, p.Val, levels, api.OK)
	}
	others := []uint64{0, 1, greatest, greatest - 1, 1 << 63, 1<<63 - 1, 1 << 32}
	for _, p := range l {
		others = append(others, p.Key-1, p.Key+1, p.Key^1<<63, p.Key^1<<32)
	}
	for _, key := range others {
		if there[key] {
			continue
		}
		reads := levels
		if levels > 1 && key < l[0].Key {
			reads = 1 // the root has no child for it
		}
		wantFind(t, strconv.Itoa(len(l))+" pairs", pages, key, 0, reads, api.ErrNone)
	}
	if t.Failed() {
		t.FailNow()
	}
}

func TestEveryKeyOfSeveralIsFound(t *testing.T) {
	for _, n := range []int{0, 1, 7, 8, 84, 85, 600} {
		pages := mustBuild(t, run(n, 3, 3))
		for key := range uint64(3*n + 6) {
			v, reads, e := tree.Find(pages, key)
			want, asked, err := found(sheetsOf(run(n, 3, 3)), key)
			if v != want || reads != asked || e != err || reads > 3 || (e == api.OK) != (key%3 == 0 && key > 0 && key <= uint64(3*n)) {
				t.Fatalf("of %d pairs, Find(%d): %d by %d reads, error %d", n, key, v, reads, e)
			}
		}
	}
}

// Rule R3: what is handed in is neither changed nor kept, and what is returned is new.

// spoil writes into all that pages have room for.
func spoil(pages [][]byte) {
	for _, b := range pages {
		b = b[:cap(b)]
		for i := range b {
			b[i] ^= 255
		}
	}
	pages = pages[:cap(pages)]
	for i := range pages {
		pages[i] = nil
	}
}

func TestBuildIsNew(t *testing.T) {
	for _, n := range []int{0, 1, 7, 8, 84, 85, 600} {
		room := run(n+20, 1, 2)
		l, before := room[:n], slices.Clone(room)
		pages := mustBuild(t, l)
		want := cloned(pages)
		if !slices.Equal(room, before) {
			t.Errorf("Build of %d pairs: the pairs, or what is behind them, have changed", n)
		}
		clear(room)
		if !equal(pages, want) {
			t.Errorf("Build of %d pairs: the pages hang on the pairs", n)
		}
		again := mustBuild(t, before[:n])
		spoil(pages)
		if !equal(again, want) || !equal(mustBuild(t, before[:n]), want) {
			t.Errorf("Build of %d pairs: two calls share memory", n)
		}
	}
}

// TestPagesShareNothing: no page has room that is another one's.
func TestPagesShareNothing(t *testing.T) {
	for _, n := range []int{8, 85, 600} {
		pages := mustBuild(t, run(n, 1, 2))
		want := cloned(pages)
		for at, b := range pages {
			b = b[:cap(b)]
			was := slices.Clone(b)
			for i := range b {
				b[i] ^= 255
			}
			for k := range pages {
				if k != at && !bytes.Equal(pages[k], want[k]) {
					t.Fatalf("%d pairs: page %d is changed by page %d", n, k, at)
				}
			}
			copy(b, was)
		}
	}
}

func TestFindAndAllLeavePages(t *testing.T) {
	for _, n := range []int{0, 1, 7, 8, 84, 85, 600} {
		l := run(n, 1, 2)
		built := mustBuild(t, l)
		room := make([]byte, 0, (len(built)+1)*api.Sector)
		pages := make([][]byte, 0, len(built)+3)
		for _, b := range built { // each page has room behind it, which is the next one's
			room = append(room, b...)
			pages = append(pages, room[len(room)-api.Sector:])
		}
		for key := range uint64(2*n + 2) {
			tree.Find(pages, key)
		}
		wantAll(t, strconv.Itoa(n)+" pairs", pages, l)
		if !equal(pages, built) || !bytes.Equal(room[:cap(room)][len(room):], make([]byte, api.Sector)) || pages[:cap(pages)][len(pages)] != nil {
			t.Errorf("%d pairs: the pages, or what is behind them, have changed", n)
		}
	}
}

func TestAllIsNew(t *testing.T) {
	for _, n := range []int{1, 7, 8, 84, 85, 600} {
		l := run(n, 1, 2)
		pages := mustBuild(t, l)
		got, _ := tree.All(pages)
		again, _ := tree.All(pages)
		room := got[:cap(got)]
		clear(room)
		if !slices.Equal(again, l) {
			t.Errorf("All of %d pairs: two calls share memory", n)
		}
		spoil(pages)
		if !slices.Equal(again, l) {
			t.Errorf("All of %d pairs: the pairs hang on the pages", n)
		}
	}
}

// TestSameEachTime: a call leaves nothing that a later one would see.
func TestSameEachTime(t *testing.T) {
	a, b := mustBuild(t, run(100, 1, 2)), mustBuild(t, run(8, 2, 2))
	want := cloned(a)
	tree.Build(run(601, 1, 1))
	tree.All(b)
	tree.Find(b[:1], 5)
	tree.Find(with(a, len(a)-1, nil), 5)
	if !equal(mustBuild(t, run(100, 1, 2)), want) {
		t.Error("Build answers other pages later")
	}
	wantAll(t, "later", a, run(100, 1, 2))
	wantFind(t, "later", a, 3, run(100, 1, 2)[1].Val, 3, api.OK)
}
