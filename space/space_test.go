package space_test

import (
	"bytes"
	"math"
	"slices"
	"strconv"
	"testing"

	"hamper/api"
	"hamper/space"
)

// sizes are the numbers of pages that tests take: those beside the edges of octets and of the limit, and a few others.
var sizes = []int{0, 1, 2, 7, 8, 9, 15, 16, 17, 63, 64, 65, 100, 2039, 2040, 2041, 2047, 2048}

// model tells of each page whether it is used.
type model []bool

// bitsOf are the bits of a model, told by the chapter's words.
func (m model) bitsOf() []byte {
	n := len(m) / 8
	if len(m)%8 != 0 {
		n++
	}
	out := make([]byte, n)
	for p, used := range m {
		if used {
			v := 1
			for range p % 8 {
				v *= 2
			}
			out[p/8] += byte(v)
		}
	}
	return out
}

// space is the space of a model.
func (m model) space() api.Space { return api.Space{N: len(m), Bits: m.bitsOf()} }

// pages are those which are used, or those which are not, in ascending order.
func (m model) pages(used bool) []int {
	var out []int
	for p, u := range m {
		if u == used {
			out = append(out, p)
		}
	}
	return out
}

// with is the model in which pages are used, or not.
func (m model) with(used bool, l ...int) model {
	out := slices.Clone(m)
	for _, p := range l {
		out[p] = used
	}
	return out
}

// turned is what Give or Mark has to answer.
func (m model) turned(l []int, used bool, wrong api.Errno) (model, api.Errno) {
	for i, p := range l {
		if p < 0 || p >= len(m) {
			return nil, api.ErrRange
		}
		if m[p] == used || slices.Contains(l[:i], p) {
			return nil, wrong
		}
	}
	return m.with(used, l...), api.OK
}

// taken is what Take has to answer.
func (m model) taken(k int) (model, []int, api.Errno) {
	unused := m.pages(false)
	if k < 0 {
		return nil, nil, api.ErrArg
	}
	if k > len(unused) {
		return nil, nil, api.ErrFull
	}
	return m.with(true, unused[:k]...), unused[:k], api.OK
}

// modelOf is the model of n pages of which those are used whose bits are set in v.
func modelOf(n int, v uint64) model {
	out := make(model, n)
	for p := range out {
		out[p] = v>>p&1 != 0
	}
	return out
}

// mixed is a model of n pages, of which about part of 256 are used, without order.
func mixed(n, part, seed int) model {
	out, v := make(model, n), uint64(seed)+1
	for p := range out {
		v = v*6364136223846793005 + 1442695040888963407
		out[p] = int(v>>56) < part
	}
	return out
}

// models are those of n pages that tests take: all, if they are few, otherwise chosen ones.
func models(n int) []model {
	var out []model
	if n <= 9 {
		for v := range 1 << n {
			out = append(out, modelOf(n, uint64(v)))
		}
		return out
	}
	for i, part := range []int{0, 256, 128, 10, 246} {
		out = append(out, mixed(n, part, n+i))
	}
	none, every := mixed(n, 0, 0), mixed(n, 256, 0)
	for _, p := range []int{0, 1, 7, 8, n / 2, n - 2, n - 1} {
		out = append(out, none.with(true, p), every.with(false, p))
	}
	return out
}

func name(m model) string {
	return strconv.Itoa(len(m)) + " pages, of which are used " + text(m.pages(true))
}

func text(l []int) string {
	out := "["
	for _, v := range l {
		out += " " + strconv.Itoa(v)
	}
	return out + " ]"
}

// same: are spaces the same? A nil slice and an empty one are.
func same(a, b api.Space) bool { return a.N == b.N && bytes.Equal(a.Bits, b.Bits) }

// nothing: is a space the zero value?
func nothing(s api.Space) bool { return s.N == 0 && len(s.Bits) == 0 }

// wantSpace holds that a space beside an error is that of the model, or the zero value beside one that is not OK.
func wantSpace(t *testing.T, what func() string, s api.Space, e api.Errno, m model, want api.Errno) {
	t.Helper()
	if e != want {
		t.Fatalf("%s: error %d; want %d", what(), e, want)
	}
	if want != api.OK {
		if !nothing(s) {
			t.Fatalf("%s: %v beside error %d", what(), s, e)
		}
		return
	}
	if !same(s, m.space()) {
		t.Fatalf("%s: %v; want %v", what(), s, m.space())
	}
	if !space.May(s) {
		t.Fatalf("%s: a space that is not valid: %v", what(), s)
	}
}

// of tells a call; it is made only where the call fails, as the texts of large spaces are long.
func of(call string, l []int, m model) func() string {
	return func() string { return call + " " + text(l) + " of " + name(m) }
}

// bad are spaces that are not valid.
func bad() []api.Space {
	var out []api.Space
	for _, n := range []int{-1, -2, -7, -8, -9, -64, math.MinInt, math.MinInt + 7, math.MinInt32, -1 << 32, -1 << 33} {
		for _, k := range []int{0, 1, 2, 8} {
			out = append(out, api.Space{N: n, Bits: make([]byte, k)})
		}
	}
	for _, n := range []int{2049, 2050, 2055, 2056, 2057, 4096, 1 << 16} {
		out = append(out, api.Space{N: n, Bits: make([]byte, (n+7)/8)}, api.Space{N: n, Bits: make([]byte, 256)})
	}
	// Numbers that are valid if only some of their bits are looked at, and the last ones of the type.
	for _, n := range []int{1 << 32, 1<<32 + 8, 1 << 33, 1<<16 + 8, math.MaxInt32, math.MaxInt - 8, math.MaxInt - 7, math.MaxInt - 6, math.MaxInt - 1, math.MaxInt} {
		for _, k := range []int{0, 1, 256, 257} {
			out = append(out, api.Space{N: n, Bits: make([]byte, k)})
		}
	}
	for _, n := range sizes {
		k := (n + 7) / 8
		out = append(out, api.Space{N: n, Bits: make([]byte, k+1)}, api.Space{N: n, Bits: make([]byte, k+2)})
		if k > 0 {
			out = append(out, api.Space{N: n, Bits: make([]byte, k-1)}, api.Space{N: n})
		}
		for p := n; p < 8*k; p++ { // the bits at N and above
			b := make([]byte, k)
			b[k-1] = 1 << (p % 8)
			all := bytes.Repeat([]byte{255}, k)
			all[k-1] = 1<<(n%8) - 1 | 1<<(p%8)
			out = append(out, api.Space{N: n, Bits: b}, api.Space{N: n, Bits: all})
		}
	}
	return out
}

// P5.1: New.

func TestNew(t *testing.T) {
	for n := range 2049 {
		s, e := space.New(n)
		wantSpace(t, of("New", []int{n}, nil), s, e, make(model, n), api.OK)
		if k := space.Count(s); k != 0 {
			t.Fatalf("New(%d) has %d used pages", n, k)
		}
	}
}

func TestNewOfWrongSize(t *testing.T) {
	for _, n := range []int{-1, -2, -8, -2048, math.MinInt32, math.MinInt, math.MinInt + 1, 2049, 2050, 2056, 4096, 1 << 16, math.MaxInt32, 1 << 32, 1<<32 + 1, 1<<32 + 2048, math.MaxInt - 7, math.MaxInt - 6, math.MaxInt} {
		s, e := space.New(n)
		wantSpace(t, of("New", []int{n}, nil), s, e, nil, api.ErrArg)
	}
}

func TestNewIsNewEachTime(t *testing.T) {
	a, _ := space.New(16)
	a.Bits[0], a.Bits[1] = 255, 255
	b, e := space.New(16)
	wantSpace(t, of("New again", []int{16}, nil), b, e, make(model, 16), api.OK)
}

// P5.1: May.

func TestMayOfValid(t *testing.T) {
	for _, n := range sizes {
		for _, m := range models(n) {
			if !space.May(m.space()) {
				t.Errorf("May is false: %s", name(m))
			}
		}
	}
	if !space.May(api.Space{}) || !space.May(api.Space{Bits: []byte{}}) {
		t.Error("May is false: no pages")
	}
	if !space.May(api.Space{N: 9, Bits: append(make([]byte, 0, 100), 255, 1)}) {
		t.Error("May is false: more room than octets")
	}
}

func TestMayOfNotValid(t *testing.T) {
	for _, s := range bad() {
		if space.May(s) {
			t.Errorf("May is true: %d pages, %d octets %v", s.N, len(s.Bits), s.Bits)
		}
	}
}

func TestMayOfEveryLastOctet(t *testing.T) {
	for n := 1; n <= 8; n++ {
		for v := range 256 {
			want := v < 1<<n
			if got := space.May(api.Space{N: n, Bits: []byte{byte(v)}}); got != want {
				t.Errorf("May of %d pages, octet %d: %v", n, v, got)
			}
			if got := space.May(api.Space{N: 2040 + n, Bits: append(bytes.Repeat([]byte{255}, 255), byte(v))}); got != want {
				t.Errorf("May of %d pages, last octet %d: %v", 2040+n, v, got)
			}
		}
	}
}

// P5.1: what is not valid is told before anything else.

func TestNotValidForAll(t *testing.T) {
	lists := [][]int{nil, {0}, {-1}, {0, 0}, {2047}, {2048}, {math.MaxInt}, {math.MinInt}, {1, 2, 3}}
	numbers := []int{0, 1, -1, 7, 8, 2048, 2049, math.MaxInt, math.MinInt}
	for _, s := range bad() {
		what := strconv.Itoa(s.N) + " pages, " + strconv.Itoa(len(s.Bits)) + " octets"
		before := slices.Clone(s.Bits)
		if k := space.Count(s); k != 0 {
			t.Errorf("Count of %s: %d", what, k)
		}
		if l := space.Free(s); len(l) != 0 {
			t.Errorf("Free of %s: %d pages", what, len(l))
		}
		for _, v := range append([]int{s.N - 1, s.N}, numbers...) {
			if space.Used(s, v) {
				t.Errorf("Used of %s, %d: true", what, v)
			}
			out, l, e := space.Take(s, v)
			wantSpace(t, of("Take of "+what, []int{v}, nil), out, e, nil, api.ErrArg)
			if len(l) != 0 {
				t.Errorf("Take of %s, %d: %d pages", what, v, len(l))
			}
		}
		for _, l := range lists {
			out, e := space.Give(s, l)
			wantSpace(t, of("Give of "+what, l, nil), out, e, nil, api.ErrArg)
			out, e = space.Mark(s, l)
			wantSpace(t, of("Mark of "+what, l, nil), out, e, nil, api.ErrArg)
		}
		if !bytes.Equal(s.Bits, before) {
			t.Errorf("%s: the octets have changed", what)
		}
	}
}

// P5.1: Used, Count, Free.

func TestUsedCountFree(t *testing.T) {
	for _, n := range sizes {
		for _, m := range models(n) {
			s := m.space()
			for p := range n {
				if got := space.Used(s, p); got != m[p] {
					t.Fatalf("Used(%d) is %v: %s", p, got, name(m))
				}
			}
			for _, p := range []int{-1, -2, -8, n, n + 1, n + 7, n + 8, 2048, 1 << 32, 1<<32 + n/2, math.MaxInt, math.MinInt, math.MinInt + 1} {
				if space.Used(s, p) {
					t.Fatalf("Used(%d) is true: %s", p, name(m))
				}
			}
			if got, want := space.Count(s), len(m.pages(true)); got != want {
				t.Fatalf("Count: %d; want %d: %s", got, want, name(m))
			}
			if got, want := space.Free(s), m.pages(false); !slices.Equal(got, want) {
				t.Fatalf("Free: %s; want %s: %s", text(got), text(want), name(m))
			}
		}
	}
}

// TestBitOfPage: the bit of a page stands where the chapter says, written out.
func TestBitOfPage(t *testing.T) {
	for _, c := range []struct {
		p     int
		octet int
		value byte
	}{{0, 0, 1}, {1, 0, 2}, {2, 0, 4}, {3, 0, 8}, {4, 0, 16}, {5, 0, 32}, {6, 0, 64}, {7, 0, 128}, {8, 1, 1}, {15, 1, 128}, {16, 2, 1}, {2047, 255, 128}} {
		s := api.Space{N: 2048, Bits: make([]byte, 256)}
		s.Bits[c.octet] = c.value
		none, _ := space.New(2048)
		got, e := space.Mark(none, []int{c.p})
		if e != api.OK || !same(got, s) || !space.Used(s, c.p) || space.Count(s) != 1 || slices.Contains(space.Free(s), c.p) {
			t.Errorf("page %d is not bit %d of octet %d", c.p, c.value, c.octet)
		}
	}
}

// P5.2: Take.

func TestTake(t *testing.T) {
	for _, n := range sizes {
		for _, m := range models(n) {
			free := len(m.pages(false))
			for _, k := range []int{0, 1, 2, 3, 7, 8, 9, free / 2, free - 1, free, free + 1, free + 2, n, n + 1, 2048, 2049, 1 << 32, 1<<32 + free, math.MaxInt - 1, math.MaxInt, -1, -2, -free, math.MinInt, math.MinInt + 1, -1 << 32} {
				what := of("Take", []int{k}, m)
				want, pages, e := m.taken(k)
				s := m.space()
				out, l, err := space.Take(s, k)
				wantSpace(t, what, out, err, want, e)
				if !slices.Equal(l, pages) {
					t.Fatalf("%s: pages %s; want %s", what(), text(l), text(pages))
				}
				if !same(s, m.space()) {
					t.Fatalf("%s: the space has changed", what())
				}
			}
		}
	}
}

// TestTakeBelowZeroOfFull: a k below 0 is told even where nothing is left.
func TestTakeBelowZeroOfFull(t *testing.T) {
	for _, n := range []int{0, 1, 8, 9, 2048} {
		s := mixed(n, 256, 0).space()
		out, l, e := space.Take(s, -1)
		wantSpace(t, of("Take", []int{-1}, nil), out, e, nil, api.ErrArg)
		if len(l) != 0 {
			t.Errorf("Take(-1): %s", text(l))
		}
	}
}

// P5.3: Give and Mark.

// wantTurned holds that Give and Mark answer as the model does, and leave what they were given.
func wantTurned(t *testing.T, m model, l []int) {
	t.Helper()
	s, list := m.space(), slices.Clone(l)
	want, e := m.turned(l, false, api.ErrNone)
	out, err := space.Give(s, list)
	wantSpace(t, of("Give", l, m), out, err, want, e)
	want, e = m.turned(l, true, api.ErrThere)
	out, err = space.Mark(s, list)
	wantSpace(t, of("Mark", l, m), out, err, want, e)
	if !same(s, m.space()) || !slices.Equal(list, l) {
		t.Fatalf("%s: what was handed in has changed", of("Give or Mark", l, m)())
	}
}

// eachList goes through all lists of at most k of the numbers from lo to hi.
func eachList(lo, hi, k int, do func(l []int)) {
	var more func(l []int)
	more = func(l []int) {
		do(l)
		if len(l) == k {
			return
		}
		for v := lo; v <= hi; v++ {
			more(append(l[:len(l):len(l)], v))
		}
	}
	more(nil)
}

func TestGiveMarkOfAllShortLists(t *testing.T) {
	for n := range 6 {
		for _, m := range models(n) {
			eachList(-1, n, 4, func(l []int) { wantTurned(t, m, l) })
		}
	}
	for _, n := range []int{7, 8, 9} {
		for _, m := range models(n) {
			eachList(-1, n, 2, func(l []int) { wantTurned(t, m, l) })
		}
	}
}

func TestGiveMarkAtEdges(t *testing.T) {
	far := []int{math.MinInt, math.MinInt + 1, -1 << 32, math.MinInt32, -8, -1, 2048, 2049, 1 << 16, 1 << 32, 1<<32 + 1, math.MaxInt32, math.MaxInt - 1, math.MaxInt}
	for _, n := range sizes {
		for _, m := range models(n) {
			var lists [][]int
			for _, p := range append([]int{0, n - 1, n, n + 1, n + 7, n + 8}, far...) {
				lists = append(lists, []int{p}, []int{p, p}, []int{0, p}, []int{p, 0}, []int{n - 1, p}, []int{p, n - 1})
			}
			used, unused := m.pages(true), m.pages(false)
			for _, l := range [][]int{used, unused} {
				back := slices.Clone(l)
				slices.Reverse(back)
				lists = append(lists, l, back, append(slices.Clone(l), n), append(slices.Clone(l), -1), append([]int{n}, l...))
				if len(l) > 0 {
					lists = append(lists, append(slices.Clone(l), l[0]), append(slices.Clone(l), l[len(l)-1]), append(slices.Clone(back), n, l[0]))
				}
			}
			lists = append(lists, slices.Concat(used, unused), slices.Concat(unused, used))
			for _, l := range lists {
				wantTurned(t, m, l)
			}
		}
	}
}

// TestFirstErrorOfList: the first entry that is wrong decides, whatever follows.
func TestFirstErrorOfList(t *testing.T) {
	s := api.Space{N: 5, Bits: []byte{0b00110}} // 1 and 2 are used
	for _, c := range []struct {
		l          []int
		give, mark api.Errno
	}{
		{nil, api.OK, api.OK},
		{[]int{}, api.OK, api.OK},
		{[]int{1}, api.OK, api.ErrThere},
		{[]int{0}, api.ErrNone, api.OK},
		{[]int{5, 0}, api.ErrRange, api.ErrRange},
		{[]int{0, 5}, api.ErrNone, api.ErrRange},
		{[]int{1, 5}, api.ErrRange, api.ErrThere},
		{[]int{-1, 1, 0}, api.ErrRange, api.ErrRange},
		{[]int{1, 1}, api.ErrNone, api.ErrThere},
		{[]int{0, 0}, api.ErrNone, api.ErrThere},
		{[]int{1, 2, 1}, api.ErrNone, api.ErrThere},
		{[]int{3, 4, 3}, api.ErrNone, api.ErrThere},
		{[]int{1, 1, 5}, api.ErrNone, api.ErrThere},
		{[]int{3, 3, 5}, api.ErrNone, api.ErrThere},
		{[]int{1, 5, 1}, api.ErrRange, api.ErrThere},
		{[]int{3, 5, 3}, api.ErrNone, api.ErrRange},
		{[]int{1, 2, -1, 0}, api.ErrRange, api.ErrThere},
		{[]int{2, 1}, api.OK, api.ErrThere},
		{[]int{4, 0, 3}, api.ErrNone, api.OK},
	} {
		out, e := space.Give(s, c.l)
		if e != c.give || e != api.OK && !nothing(out) {
			t.Errorf("Give %s: %v, %d; want %d", text(c.l), out, e, c.give)
		}
		out, e = space.Mark(s, c.l)
		if e != c.mark || e != api.OK && !nothing(out) {
			t.Errorf("Mark %s: %v, %d; want %d", text(c.l), out, e, c.mark)
		}
	}
}

// P5.4: consequence.

func TestTakeThenGive(t *testing.T) {
	for _, n := range sizes {
		for _, m := range models(n) {
			s := m.space()
			free := len(space.Free(s))
			for _, k := range []int{0, 1, 2, free / 2, free - 1, free} {
				if k < 0 || k > free {
					continue
				}
				a, l, e := space.Take(s, k)
				if e != api.OK || len(l) != k || !slices.IsSorted(l) || space.Count(a) != space.Count(s)+k {
					t.Fatalf("Take(%d) of %s: %s, %d", k, name(m), text(l), e)
				}
				for p := range n {
					was, is, taken := space.Used(s, p), space.Used(a, p), slices.Contains(l, p)
					if taken && (was || !is) || !taken && was != is {
						t.Fatalf("Take(%d) of %s: page %d was %v and is %v", k, name(m), p, was, is)
					}
				}
				b, e := space.Give(a, l)
				if e != api.OK || !same(b, s) {
					t.Fatalf("Give after Take(%d) of %s: %v, %d", k, name(m), b, e)
				}
				c, e := space.Mark(s, l)
				if e != api.OK || !same(c, a) {
					t.Fatalf("Mark instead of Take(%d) of %s: %v, %d", k, name(m), c, e)
				}
			}
		}
	}
}

// TestLongRun: many calls one after the other, beside the model.
func TestLongRun(t *testing.T) {
	for _, n := range []int{1, 9, 50, 2048} {
		m, v := make(model, n), uint64(n)
		s, _ := space.New(n)
		next := func(below int) int {
			v = v*6364136223846793005 + 1442695040888963407
			return int(v>>33) % below
		}
		some := func() []int {
			var l []int
			for range next(4) {
				l = append(l, next(n+2)-1)
			}
			return l
		}
		for range 3000 {
			var want model
			var e, err api.Errno
			var out api.Space
			switch next(3) {
			case 0:
				k := next(5) - 1
				var pages, l []int
				want, pages, e = m.taken(k)
				out, l, err = space.Take(s, k)
				if !slices.Equal(l, pages) {
					t.Fatalf("Take(%d) of %s: %s", k, name(m), text(l))
				}
			case 1:
				l := some()
				if used := m.pages(true); next(2) == 0 && len(used) > 0 {
					l = []int{used[next(len(used))]}
				}
				want, e = m.turned(l, false, api.ErrNone)
				out, err = space.Give(s, l)
			default:
				l := some()
				want, e = m.turned(l, true, api.ErrThere)
				out, err = space.Mark(s, l)
			}
			wantSpace(t, of("in a long run", nil, m), out, err, want, e)
			if e == api.OK {
				m, s = want, out
			}
		}
	}
}

// Rule R3: what is handed in is neither changed nor kept, and what is returned is new.

// roomy is the space of a model whose octets have room behind them, and that room.
func roomy(m model) (api.Space, []byte) {
	b := m.bitsOf()
	all := append(slices.Clone(b), bytes.Repeat([]byte{77}, 64)...)
	return api.Space{N: len(m), Bits: all[:len(b)]}, all
}

// spoil writes into all that a space and a list have room for.
func spoil(s api.Space, l []int) {
	b := s.Bits[:cap(s.Bits)]
	for i := range b {
		b[i] ^= 255
	}
	l = l[:cap(l)]
	for i := range l {
		l[i] = -7
	}
}

func TestResultsAreNew(t *testing.T) {
	for _, n := range []int{0, 1, 8, 9, 50, 2048} {
		m := mixed(n, 128, n)
		used, unused := m.pages(true), m.pages(false)
		for what, call := range map[string]func(s api.Space) (api.Space, []int){
			"Take":         func(s api.Space) (api.Space, []int) { a, l, _ := space.Take(s, len(unused)); return a, l },
			"Take of none": func(s api.Space) (api.Space, []int) { a, l, _ := space.Take(s, 0); return a, l },
			"Give":         func(s api.Space) (api.Space, []int) { a, _ := space.Give(s, used); return a, nil },
			"Give of none": func(s api.Space) (api.Space, []int) { a, _ := space.Give(s, nil); return a, nil },
			"Mark":         func(s api.Space) (api.Space, []int) { a, _ := space.Mark(s, unused); return a, nil },
			"Mark of none": func(s api.Space) (api.Space, []int) { a, _ := space.Mark(s, []int{}); return a, nil },
			"Free":         func(s api.Space) (api.Space, []int) { return api.Space{}, space.Free(s) },
		} {
			s, all := roomy(m)
			before := slices.Clone(all)
			a, l := call(s)
			spoil(a, l)
			if !bytes.Equal(all, before) {
				t.Errorf("%s of %d pages: writing into the result changes the argument", what, n)
			}
			b, k := call(s)
			bits, list := slices.Clone(b.Bits), slices.Clone(k)
			spoil(s, nil)
			if !bytes.Equal(b.Bits, bits) || !slices.Equal(k, list) {
				t.Errorf("%s of %d pages: writing into the argument changes the result", what, n)
			}
		}
		if !slices.Equal(used, m.pages(true)) || !slices.Equal(unused, m.pages(false)) {
			t.Errorf("%d pages: the lists have changed", n)
		}
	}
}

func TestErrorsChangeNothing(t *testing.T) {
	m := mixed(50, 128, 3)
	s, all := roomy(m)
	before := slices.Clone(all)
	used, unused := m.pages(true), m.pages(false)
	space.Take(s, len(unused)+1)
	space.Give(s, append(slices.Clone(used), used[0]))
	space.Mark(s, append(slices.Clone(unused), unused[0]))
	space.Give(s, append(slices.Clone(used), 50))
	space.Mark(s, append(slices.Clone(unused), -1))
	if !bytes.Equal(all, before) {
		t.Error("a call that failed has changed its argument")
	}
}

// The chapter's examples.

func TestExamples(t *testing.T) {
	s, _ := space.New(5)
	a, l, e := space.Take(s, 2)
	if e != api.OK || !slices.Equal(l, []int{0, 1}) {
		t.Fatalf("Take of 2: %v, %d", l, e)
	}
	b, e := space.Give(a, []int{0})
	if e != api.OK {
		t.Fatalf("Give(0): %d", e)
	}
	c, l, e := space.Take(b, 2)
	if e != api.OK || !slices.Equal(l, []int{0, 2}) {
		t.Fatalf("Take of 2 after Give(0): %v, %d", l, e)
	}
	if !bytes.Equal(c.Bits, []byte{7}) {
		t.Errorf("Bits: %v; want 7", c.Bits)
	}
	if out, l, e := space.Take(c, 3); e != api.ErrFull || len(l) != 0 || !nothing(out) {
		t.Errorf("Take of 3 more: %v, %v, %d", out, l, e)
	}
}
