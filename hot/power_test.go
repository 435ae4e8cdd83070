package hot_test

import (
	"slices"
	"testing"

	"hamper/api"
	"hamper/disk"
	"hamper/hot"
	"hamper/journal"
)

// waysToKeep are flags for n writes: all that there are, or, of many writes, those of which one or few are kept or lost.
func waysToKeep(n int) [][]bool {
	var kept []func(k int) bool
	if n <= 6 {
		for bits := range 1 << n {
			kept = append(kept, func(k int) bool { return bits>>k&1 == 1 })
		}
	} else {
		kept = []func(k int) bool{
			func(int) bool { return true },
			func(int) bool { return false },
			func(k int) bool { return k == 0 },
			func(k int) bool { return k != 0 },
			func(k int) bool { return k == n-1 },
			func(k int) bool { return k != n-1 },
			func(k int) bool { return k == n/2 },
			func(k int) bool { return k != n/2 },
			func(k int) bool { return k < n/2 },
			func(k int) bool { return k >= n/2 },
			func(k int) bool { return k%2 == 0 },
			func(k int) bool { return k%3 == 1 },
		}
	}
	var out [][]bool
	for _, keeps := range kept {
		w := make([]bool, n)
		for k := range w {
			w[k] = keeps(k)
		}
		out = append(out, w)
	}
	return out
}

// crashes goes through every way that the power fails during a call on a disk like d, and gives each disk that comes of it, with power; last the disk of a call that was answered OK, with true.
func crashes(t *testing.T, d *disk.Disk, call func(c *disk.Disk, n int) api.Errno, each func(c *disk.Disk, done bool)) {
	t.Helper()
	for n := 0; ; n++ {
		c := d.Clone()
		e := call(c, n)
		if e == api.OK {
			// What is done by then is flushed: a cut takes nothing of it.
			c.Cut(nil)
			c.On()
			each(c, true)
			return
		}
		if e != api.ErrPower || c.Power() {
			t.Fatalf("on a budget of %d: %d, power %t", n, e, c.Power())
		}
		for _, keep := range waysToKeep(len(c.Waits())) {
			k := c.Clone()
			k.Cut(keep)
			k.On()
			each(k, false)
		}
		// The power comes again without a cut: what waits is lost.
		c.On()
		each(c, false)
	}
}

// opening opens a disk on a budget.
func opening(c *disk.Disk, n int) api.Errno {
	c.Budget(n)
	h, e := hot.Open(c)
	if (e == api.OK) != (h != nil) {
		return api.ErrState
	}
	return e
}

// settled is which of the models a disk has when it is opened, though that fails up to depth times on the way: the same one each time.
func settled(t *testing.T, d *disk.Disk, depth int, models ...model) int {
	t.Helper()
	got := -1
	if depth > 0 {
		crashes(t, d, opening, func(c *disk.Disk, done bool) {
			k := settled(t, c, depth-1, models...)
			if got >= 0 && k != got {
				t.Fatal("it is another store, as Open failed on the way")
			}
			got = k
		})
		return got
	}
	h, e := hot.Open(d.Clone())
	if e != api.OK {
		t.Fatalf("Open behind a failure of power: %d", e)
	}
	got = slices.IndexFunc(models, func(m model) bool { return otherThan(t, h, m) == "" })
	if got < 0 {
		t.Fatalf("the store has neither what it had nor what it was to have: IDs %v, used %v", h.IDs(), h.Used())
	}
	return got
}

// goesOn holds that a store is opened and changed, as its model is.
func goesOn(t *testing.T, d *disk.Disk, m model) {
	t.Helper()
	c := d.Clone()
	s := &both{mustOpen(t, c), c, m}
	wantStore(t, s.h, m)
	s.batch(t, put(1, 77))
	s.open(t)
}

// wantAllOrNothing holds that changes of a store are done or not, however the power fails.
func wantAllOrNothing(t *testing.T, s *both, depth int, l ...api.Change) {
	t.Helper()
	next, puts, e := s.m.batch(t, l)
	if e != api.OK {
		t.Fatalf("the model answers %d", e)
	}
	points := 0
	batch := func(c *disk.Disk, n int) api.Errno {
		points++
		h := mustOpen(t, c)
		c.Budget(n)
		told := c.Clone()
		journal.Commit(told, puts)
		e := h.Batch(l)
		wantDisk(t, c, told)
		return e
	}
	times := [2]int{}
	crashes(t, s.d, batch, func(c *disk.Disk, done bool) {
		k := settled(t, c, depth, s.m, next)
		if done && k != 1 {
			t.Fatal("Batch was answered OK, and nothing was done")
		}
		times[k]++
		goesOn(t, c, []model{s.m, next}[k])
	})
	// Each write of the transaction is done twice, the head twice, and there are four flushes.
	if want := 2*len(puts) + 2 + 4 + 1; points != want {
		t.Errorf("the power failed at %d points; want %d", points-1, want-1)
	}
	if times[0] == 0 || times[1] < 2 {
		t.Errorf("it was done %d times, and not done %d times", times[1], times[0])
	}
}

// P7.4: all or nothing.

func TestAllOrNothing(t *testing.T) {
	s := made(t, 44)
	wantAllOrNothing(t, s, 2)
	wantAllOrNothing(t, s, 2, put(1, 0), put(2, 0))

	s = made(t, 60)
	wantAllOrNothing(t, s, 2, put(1, 100))
	wantAllOrNothing(t, s, 1, put(1, 200), put(2, 5))
	s.does(t, api.OK, put(1, 300), put(2, 0), put(3, 126))
	wantAllOrNothing(t, s, 1)
	wantAllOrNothing(t, s, 1, gone(1))
	wantAllOrNothing(t, s, 1, gone(1), gone(2), gone(3))
	wantAllOrNothing(t, s, 1, put(1, 250), gone(3), put(9, 1))
	wantAllOrNothing(t, s, 1, put(2, 300))
	wantAllOrNothing(t, s, 1, empties(10, 5)...)

	// The pages that are taken were others' before.
	s.does(t, api.OK, put(1, 5), gone(3))
	s.does(t, api.OK, gone(2))
	wantAllOrNothing(t, s, 1, put(1, 6), put(4, 500))
}

// TestAllOrNothingOfMost: batches of many pages, and of a directory of several levels.
func TestAllOrNothingOfMost(t *testing.T) {
	s := made(t, 140)
	s.does(t, api.OK, put(1, 4032))
	wantAllOrNothing(t, s, 0, put(2, 4032), put(1, 6*126))
	wantAllOrNothing(t, s, 1, put(1, 7*126))
	s.does(t, api.OK, empties(100, 100)...)
	wantAllOrNothing(t, s, 0, gone(1), put(7, 500))
	s.does(t, api.OK, append(empties(300, 30), gone(1), put(8, 126*9))...)
	wantAllOrNothing(t, s, 0, put(100, 126*5), gone(8))
}

// TestFullDiskAllOrNothing: all pages are used during the batch, so those that are left come right behind it.
func TestFullDiskAllOrNothing(t *testing.T) {
	s := made(t, 50)
	s.does(t, api.OK, put(1, 252), put(2, 126))
	s.does(t, api.ErrFull, put(1, 379))
	wantAllOrNothing(t, s, 1, put(1, 378-126), gone(2))
	s.does(t, api.OK, put(1, 252), gone(2))
	s.does(t, api.OK, put(2, 252))
	wantAllOrNothing(t, s, 1, gone(1), gone(2))
}

// TestFormatFails: nothing is there, or the store that was there, or one without blobs.
func TestFormatFails(t *testing.T) {
	formatting := func(c *disk.Disk, n int) api.Errno {
		c.Budget(n)
		told := c.Clone()
		formatted(t, told)
		h, e := hot.Format(c)
		wantDisk(t, c, told)
		if (e == api.OK) != (h != nil) {
			return api.ErrState
		}
		return e
	}
	for _, n := range []int{44, 60} {
		blank := made(t, n).m
		none, there := 0, 0
		crashes(t, noisy(t, n), formatting, func(c *disk.Disk, done bool) {
			h, e := hot.Open(c.Clone())
			if e == api.ErrForm && h == nil && !done {
				none++
				return
			}
			if e != api.OK || otherThan(t, h, blank) != "" {
				t.Fatalf("behind a Format that failed: %d", e)
			}
			there++
			goesOn(t, c, blank)
		})
		if none == 0 || there < 2 {
			t.Errorf("there was none %d times, and one %d times", none, there)
		}

		s := made(t, n)
		s.does(t, api.OK)
		s.does(t, api.OK)
		if n > 44 {
			s.does(t, api.OK, put(1, 300), put(2, 0))
			s.does(t, api.OK, put(3, 10))
		} else {
			s.does(t, api.OK, put(2, 0))
		}
		crashes(t, s.d, formatting, func(c *disk.Disk, done bool) {
			k := settled(t, c, 1, s.m, blank)
			if done && k != 1 {
				t.Fatal("Format was answered OK, and nothing was done")
			}
		})
	}
}

// TestOpenFails: on a disk with nothing to recover Open needs no write.
func TestOpenFails(t *testing.T) {
	s := made(t, 60)
	s.does(t, api.OK, put(1, 300))
	before := shown(s.d)
	if e := opening(s.d, 0); e != api.OK || !s.d.Power() {
		t.Errorf("Open on a budget of 0: %d", e)
	}
	s.d.On()
	if shown(s.d) != before {
		t.Error("Open has changed the disk")
	}
}

// TestOpenRecovers: what the journal has is brought to its end ahead of all else, whether that comes to a store or not.
func TestOpenRecovers(t *testing.T) {
	_, puts, _ := model{total: 18}.batch(t, nil)
	begun := func() *disk.Disk {
		d := noisy(t, 60)
		d.Budget(5) // two writes, a flush, the head, a flush
		journal.Commit(d, puts)
		d.On()
		return d
	}
	if k := settled(t, begun(), 2, made(t, 60).m); k != 0 {
		t.Errorf("the store is number %d", k)
	}
	puts[1].B = mixed(api.Sector, 2)
	d := begun()
	want := d.Clone()
	journal.Recover(want)
	failed := 0
	crashes(t, d, func(c *disk.Disk, n int) api.Errno {
		e := opening(c, n)
		if e == api.ErrForm {
			c.Budget(-1)
			wantDisk(t, c, want)
			return api.OK
		}
		failed++
		return e
	}, func(*disk.Disk, bool) {})
	if failed != 5 {
		t.Errorf("Open of no store failed %d times; want 5", failed)
	}
}

// TestAfterFailure: what a store shows behind a batch that failed is what it had, till it is opened again.
func TestAfterFailure(t *testing.T) {
	s := made(t, 60)
	s.does(t, api.OK, put(1, 300), put(2, 20))
	for n := 0; ; n++ {
		c := s.d.Clone()
		h := mustOpen(t, c)
		c.Budget(n)
		e := h.Batch([]api.Change{put(1, 10), gone(2), put(3, 200)})
		if e == api.OK {
			break
		}
		if e != api.ErrPower {
			t.Fatalf("Batch on a budget of %d: %d", n, e)
		}
		if !slices.Equal(h.IDs(), []uint64{1, 2}) || !slices.Equal(h.Used(), s.m.used(t)) || h.Free() != 18-len(h.Used()) {
			t.Fatalf("behind a failure: %v, %v, %d", h.IDs(), h.Used(), h.Free())
		}
		if k, e := h.Size(1); k != 300 || e != api.OK {
			t.Fatalf("behind a failure: Size: %d, %d", k, e)
		}
		if _, e := h.Get(1); e != api.ErrPower {
			t.Fatalf("behind a failure: Get: %d", e)
		}
		if _, e := h.Get(3); e != api.ErrNone {
			t.Fatalf("behind a failure: Get of what was to be: %d", e)
		}
		if e := h.Batch(nil); e != api.ErrPower {
			t.Fatalf("behind a failure: Batch: %d", e)
		}
	}
}

// fail cuts the power, keeping what the source says.
func (s *source) fail(d *disk.Disk) {
	keep := make([]bool, s.below(len(d.Waits())+2))
	for k := range keep {
		keep[k] = s.below(2) == 0
	}
	d.Cut(keep)
	d.On()
}

// TestManyFailures: many batches on one disk, with power that fails again and again.
func TestManyFailures(t *testing.T) {
	for _, size := range []int{50, 62, 110} {
		s, next := made(t, size), source(size)
		done, undone := 0, 0
		for range 500 {
			l := next.changes(s.m)
			after, puts, want := s.m.batch(t, l)
			s.d.Budget(next.below(3*len(puts) + 9))
			e := s.h.Batch(l)
			if e != want && (want != api.OK || e != api.ErrPower) {
				t.Fatalf("Batch: %d; the model answers %d", e, want)
			}
			next.fail(s.d)
			for {
				s.d.Budget(next.below(2*len(puts) + 4))
				h, f := hot.Open(s.d)
				if f == api.OK {
					s.h = h
					break
				}
				if f != api.ErrPower {
					t.Fatalf("Open: %d", f)
				}
				next.fail(s.d)
			}
			s.d.On()
			switch {
			case want == api.OK && otherThan(t, s.h, after) == "":
				s.m = after
				done++
			case e != api.OK && otherThan(t, s.h, s.m) == "":
				if e == api.ErrPower {
					undone++
				}
			default:
				t.Fatalf("behind %d done and %d undone: neither, or not what was answered (%d)", done, undone, e)
			}
		}
		if done < 80 || undone < 30 {
			t.Errorf("%d done, %d undone", done, undone)
		}
	}
}
