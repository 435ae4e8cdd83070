package disk_test

import (
	"bytes"
	"math"
	"slices"
	"testing"

	"hamper/api"
	"hamper/disk"
)

// badSizes are no sizes of a disk.
func badSizes() []int {
	return []int{0, -1, -2, -128, -2048, 2049, 2050, 4096, 65536, 1 << 32, 1<<32 + 1, 1<<57 + 1, math.MaxInt, math.MinInt, math.MinInt + 1}
}

// noSectors are numbers of sectors that a disk of size sectors does not have.
func noSectors(size int) []int {
	return []int{-1, size, -2, size + 1, -size, 2 * size, 2048, 1 << 32, 1<<57 + 1, math.MaxInt, math.MinInt, math.MinInt + 1}
}

// noLengths are numbers of octets that no sector has.
func noLengths() []int { return []int{0, 1, 126, 127, 129, 130, 255, 256, 512} }

// all are the octets of a sector, which are c.
func all(c byte) []byte { return bytes.Repeat([]byte{c}, api.Sector) }

// mixed are octets of a sector of which none follows simply from the one before it.
func mixed(seed int) []byte {
	out, v := make([]byte, api.Sector), uint64(seed)+1
	for i := range out {
		v = v*6364136223846793005 + 1442695040888963407
		out[i] = byte(v >> 56)
	}
	return out
}

func newDisk(t *testing.T, n int) *disk.Disk {
	t.Helper()
	d, e := disk.New(n)
	if e != api.OK || d == nil {
		t.Fatalf("New(%d): %d", n, e)
	}
	return d
}

// mustWrite writes the octets c into a sector.
func mustWrite(t *testing.T, d *disk.Disk, i int, c byte) {
	t.Helper()
	if e := d.Write(i, all(c)); e != api.OK {
		t.Fatalf("Write(%d, all %d): %d", i, c, e)
	}
}

func mustFlush(t *testing.T, d *disk.Disk) {
	t.Helper()
	if e := d.Flush(); e != api.OK {
		t.Fatalf("Flush: %d", e)
	}
}

func mustBudget(t *testing.T, d *disk.Disk, n int) {
	t.Helper()
	if e := d.Budget(n); e != api.OK {
		t.Fatalf("Budget(%d): %d", n, e)
	}
}

func mustHas(t *testing.T, d *disk.Disk, i int) []byte {
	t.Helper()
	b, e := d.Has(i)
	if e != api.OK || len(b) != api.Sector {
		t.Fatalf("Has(%d): %d octets, %d", i, len(b), e)
	}
	return b
}

func mustRead(t *testing.T, d *disk.Disk, i int) []byte {
	t.Helper()
	b, e := d.Read(i)
	if e != api.OK || len(b) != api.Sector {
		t.Fatalf("Read(%d): %d octets, %d", i, len(b), e)
	}
	return b
}

// wantHas holds that each sector itself has one octet throughout: has tells which.
func wantHas(t *testing.T, d *disk.Disk, has ...byte) {
	t.Helper()
	for i, c := range has {
		if b := mustHas(t, d, i); !bytes.Equal(b, all(c)) {
			t.Errorf("Has(%d): %v; want all %d", i, b, c)
		}
	}
}

// wantRead holds the same of what is read.
func wantRead(t *testing.T, d *disk.Disk, reads ...byte) {
	t.Helper()
	for i, c := range reads {
		if b := mustRead(t, d, i); !bytes.Equal(b, all(c)) {
			t.Errorf("Read(%d): %v; want all %d", i, b, c)
		}
	}
}

func wantWaits(t *testing.T, d *disk.Disk, waits ...int) {
	t.Helper()
	if got := d.Waits(); !slices.Equal(got, waits) {
		t.Errorf("Waits: %v; want %v", got, waits)
	}
}

func wantPower(t *testing.T, d *disk.Disk, on bool) {
	t.Helper()
	if d.Power() != on {
		t.Errorf("Power: %t; want %t", d.Power(), on)
	}
}

// wantLeft holds that a disk that has power does left more writes, and that the next one is refused; below 0: that it does many.
func wantLeft(t *testing.T, d *disk.Disk, left int) {
	t.Helper()
	c, many := d.Clone(), 0
	for many < 300 && c.Write(0, all(1)) == api.OK {
		many++
	}
	if left < 0 {
		left = 300
	}
	if many != left {
		t.Errorf("%d writes are done yet; want %d", many, left)
	}
}

// P3.1: New, Size, Power, Waits.

func TestNew(t *testing.T) {
	for _, n := range []int{1, 2, 3, 41, 127, 128, 2047, 2048} {
		d := newDisk(t, n)
		if d.Size() != n {
			t.Errorf("Size of New(%d): %d", n, d.Size())
		}
		wantPower(t, d, true)
		wantWaits(t, d)
		for i := range n {
			if !bytes.Equal(mustHas(t, d, i), all(0)) || !bytes.Equal(mustRead(t, d, i), all(0)) {
				t.Errorf("New(%d): sector %d is not of zeros", n, i)
			}
		}
		wantLeft(t, d, -1)
	}
}

func TestNewBadSize(t *testing.T) {
	for _, n := range badSizes() {
		if d, e := disk.New(n); e != api.ErrArg || d != nil {
			t.Errorf("New(%d): %v, %d; want ErrArg", n, d != nil, e)
		}
	}
}

func TestSizeStays(t *testing.T) {
	d := newDisk(t, 5)
	mustWrite(t, d, 4, 1)
	d.Write(5, all(1))
	mustFlush(t, d)
	d.Cut(nil)
	if d.Size() != 5 {
		t.Errorf("Size without power: %d", d.Size())
	}
	d.On()
	if d.Size() != 5 {
		t.Errorf("Size: %d", d.Size())
	}
}

func TestEverySectorIsItsOwn(t *testing.T) {
	d := newDisk(t, api.MaxSectors)
	for i := range d.Size() {
		if e := d.Write(i, mixed(i)); e != api.OK {
			t.Fatalf("Write(%d): %d", i, e)
		}
	}
	if len(d.Waits()) != api.MaxSectors {
		t.Errorf("%d writes wait", len(d.Waits()))
	}
	mustFlush(t, d)
	for i := range d.Size() {
		if !bytes.Equal(mustHas(t, d, i), mixed(i)) || !bytes.Equal(mustRead(t, d, i), mixed(i)) {
			t.Errorf("sector %d has other octets than those written", i)
		}
	}
}

func TestWaitsInOrder(t *testing.T) {
	d := newDisk(t, 4)
	for _, i := range []int{3, 0, 3, 1, 1, 0} {
		mustWrite(t, d, i, 9)
	}
	wantWaits(t, d, 3, 0, 3, 1, 1, 0)
	wantWaits(t, d, 3, 0, 3, 1, 1, 0) // asking takes nothing away
	mustFlush(t, d)
	wantWaits(t, d)
	mustWrite(t, d, 2, 9)
	wantWaits(t, d, 2)
}

// A write waits even if it changes nothing.
func TestWaitsOfSame(t *testing.T) {
	d := newDisk(t, 2)
	mustWrite(t, d, 1, 0)
	mustWrite(t, d, 1, 0)
	wantWaits(t, d, 1, 1)
}

func TestWaitsNewMemory(t *testing.T) {
	d := newDisk(t, 4)
	mustWrite(t, d, 1, 5)
	mustWrite(t, d, 2, 6)
	got := d.Waits()
	got[0], got[1] = 3, 3
	_ = append(got, 0)
	wantWaits(t, d, 1, 2)
	mustFlush(t, d)
	wantHas(t, d, 0, 5, 6, 0)
}

// P3.1: Has.

func TestHas(t *testing.T) {
	d := newDisk(t, 3)
	mustWrite(t, d, 1, 7)
	wantHas(t, d, 0, 0, 0)
	mustFlush(t, d)
	wantHas(t, d, 0, 7, 0)
	mustWrite(t, d, 1, 8)
	mustWrite(t, d, 2, 9)
	wantHas(t, d, 0, 7, 0)
}

func TestHasWithoutPower(t *testing.T) {
	d := newDisk(t, 2)
	mustWrite(t, d, 0, 3)
	mustFlush(t, d)
	mustWrite(t, d, 1, 4)
	mustBudget(t, d, 0)
	if e := d.Flush(); e != api.ErrPower {
		t.Fatalf("Flush on no budget: %d", e)
	}
	wantHas(t, d, 3, 0)
	d.Cut([]bool{true})
	wantHas(t, d, 3, 4)
	d.On()
	wantHas(t, d, 3, 4)
}

func TestHasNoSector(t *testing.T) {
	for _, size := range []int{1, 3, 2048} {
		d := newDisk(t, size)
		for _, power := range []bool{true, false} {
			for _, i := range noSectors(size) {
				if b, e := d.Has(i); e != api.ErrRange || len(b) != 0 {
					t.Errorf("Has(%d) of %d sectors, power %t: %v, %d; want ErrRange", i, size, power, b, e)
				}
			}
			d.Cut(nil)
		}
	}
}

func TestHasNewMemory(t *testing.T) {
	d := newDisk(t, 2)
	mustWrite(t, d, 0, 7)
	mustFlush(t, d)
	first, second := mustHas(t, d, 0), mustHas(t, d, 0)
	clear(first)
	_ = append(first, all(1)...)
	if !bytes.Equal(second, all(7)) {
		t.Error("two results of Has share memory")
	}
	wantHas(t, d, 7, 0)
	wantRead(t, d, 7, 0)
}

// P3.1: Clone.

// spare is a disk in a state of many parts: sectors with 1, 2 and 0, of which two have writes that wait.
func spare(t *testing.T) *disk.Disk {
	t.Helper()
	d := newDisk(t, 3)
	mustWrite(t, d, 0, 1)
	mustWrite(t, d, 1, 2)
	mustFlush(t, d)
	mustWrite(t, d, 1, 3)
	mustWrite(t, d, 2, 4)
	return d
}

// wantSpare holds that a disk is as spare made it.
func wantSpare(t *testing.T, d *disk.Disk) {
	t.Helper()
	if d.Size() != 3 {
		t.Errorf("Size: %d", d.Size())
	}
	wantPower(t, d, true)
	wantHas(t, d, 1, 2, 0)
	wantRead(t, d, 1, 3, 4)
	wantWaits(t, d, 1, 2)
	wantLeft(t, d, -1)
}

func TestCloneIsTheSame(t *testing.T) {
	d := spare(t)
	c := d.Clone()
	wantSpare(t, c)
	wantSpare(t, c.Clone())
	wantSpare(t, d)
}

// Whatever is done to one of the two, the other one stays as it was.
func TestCloneIsIndependent(t *testing.T) {
	for name, change := range map[string]func(d *disk.Disk){
		"Write":   func(d *disk.Disk) { d.Write(0, all(9)) },
		"Writes":  func(d *disk.Disk) { d.Write(2, all(9)); d.Write(2, all(8)); d.Write(1, all(7)) },
		"Flush":   func(d *disk.Disk) { d.Flush() },
		"Cut":     func(d *disk.Disk) { d.Cut([]bool{true, true}) },
		"On":      func(d *disk.Disk) { d.On() },
		"Budget":  func(d *disk.Disk) { d.Budget(1) },
		"no more": func(d *disk.Disk) { d.Budget(0); d.Flush() },
		"all": func(d *disk.Disk) {
			d.Flush()
			d.Write(0, all(9))
			d.Cut([]bool{true})
			d.On()
			d.Write(1, all(9))
			d.Flush()
			d.Budget(2)
		},
	} {
		t.Run(name, func(t *testing.T) {
			d := spare(t)
			c := d.Clone()
			change(c)
			wantSpare(t, d)
			d = spare(t)
			c = d.Clone()
			change(d)
			wantSpare(t, c)
		})
	}
}

// Both go on from the same writes that wait, each with its own: neither's lands among the other's.
func TestCloneWritesOn(t *testing.T) {
	for many := range 20 {
		d := newDisk(t, 3)
		for range many {
			mustWrite(t, d, 0, 1)
		}
		c := d.Clone()
		mustWrite(t, d, 1, 2)
		mustWrite(t, c, 2, 3)
		mustWrite(t, d, 1, 4)
		wantWaits(t, d, append(make([]int, many), 1, 1)...)
		wantWaits(t, c, append(make([]int, many), 2)...)
		mustFlush(t, c)
		mustFlush(t, d)
		wantHas(t, d, min(1, byte(many)), 4, 0)
		wantHas(t, c, min(1, byte(many)), 0, 3)
	}
}

func TestCloneWithoutPower(t *testing.T) {
	d := spare(t)
	mustBudget(t, d, 0)
	d.Flush()
	c := d.Clone()
	wantPower(t, c, false)
	wantWaits(t, c, 1, 2)
	if _, e := c.Read(0); e != api.ErrPower {
		t.Errorf("Read of a clone without power: %d", e)
	}
	c.Cut([]bool{false, true})
	wantHas(t, c, 1, 2, 4)
	c.On()
	wantPower(t, c, true)
	wantPower(t, d, false)
	wantHas(t, d, 1, 2, 0)
	wantWaits(t, d, 1, 2)
}

func TestCloneKeepsBudget(t *testing.T) {
	for _, n := range []int{0, 1, 2, 7, -1} {
		d := newDisk(t, 1)
		mustBudget(t, d, n)
		c := d.Clone()
		wantLeft(t, c, n)
		wantLeft(t, d, n)
		if n > 0 {
			mustWrite(t, d, 0, 1)
			wantLeft(t, c, n)
			wantLeft(t, d, n-1)
		}
	}
}

// P3.2: Read.

func TestReadOfWhatWaits(t *testing.T) {
	d := newDisk(t, 2)
	mustWrite(t, d, 1, 7)
	wantRead(t, d, 0, 7)
	wantHas(t, d, 0, 0)
	mustFlush(t, d)
	wantRead(t, d, 0, 7)
	wantHas(t, d, 0, 7)
}

// Of several writes of a sector, the last one is read, also if others came behind it or the octets were there before.
func TestReadOfLastWrite(t *testing.T) {
	d := newDisk(t, 3)
	mustWrite(t, d, 0, 1)
	mustWrite(t, d, 0, 2)
	mustWrite(t, d, 1, 3)
	wantRead(t, d, 2, 3, 0)
	mustWrite(t, d, 0, 1)
	mustWrite(t, d, 2, 0)
	wantRead(t, d, 1, 3, 0)
	mustWrite(t, d, 0, 0)
	wantRead(t, d, 0, 3, 0)
	mustFlush(t, d)
	wantRead(t, d, 0, 3, 0)
	wantHas(t, d, 0, 3, 0)
}

func TestReadChangesNothing(t *testing.T) {
	d := spare(t)
	mustBudget(t, d, 1)
	for range 5 {
		wantRead(t, d, 1, 3, 4)
		wantHas(t, d, 1, 2, 0)
	}
	wantWaits(t, d, 1, 2)
	wantLeft(t, d, 1)
}

// No budget is needed to read.
func TestReadOnNoBudget(t *testing.T) {
	d := spare(t)
	mustBudget(t, d, 0)
	wantRead(t, d, 1, 3, 4)
	wantPower(t, d, true)
}

func TestReadErrors(t *testing.T) {
	for _, size := range []int{1, 3, 2048} {
		d := newDisk(t, size)
		for _, power := range []bool{true, false} {
			for _, i := range noSectors(size) {
				if b, e := d.Read(i); e != api.ErrRange || len(b) != 0 {
					t.Errorf("Read(%d) of %d sectors, power %t: %v, %d; want ErrRange", i, size, power, b, e)
				}
			}
			d.Cut(nil)
		}
		for _, i := range []int{0, size / 2, size - 1} {
			if b, e := d.Read(i); e != api.ErrPower || len(b) != 0 {
				t.Errorf("Read(%d) without power: %v, %d; want ErrPower", i, b, e)
			}
		}
	}
}

func TestReadNewMemory(t *testing.T) {
	d := newDisk(t, 2)
	mustWrite(t, d, 0, 7)
	mustFlush(t, d)
	mustWrite(t, d, 1, 8)
	for i, c := range []byte{7, 8} {
		first, second := mustRead(t, d, i), mustRead(t, d, i)
		clear(first)
		_ = append(first, all(1)...)
		if !bytes.Equal(second, all(c)) {
			t.Errorf("two results of Read(%d) share memory", i)
		}
	}
	wantRead(t, d, 7, 8)
	mustFlush(t, d)
	wantHas(t, d, 7, 8)
}

// What was read stays, whatever the disk does.
func TestReadStays(t *testing.T) {
	d := newDisk(t, 1)
	mustWrite(t, d, 0, 7)
	waiting := mustRead(t, d, 0)
	mustFlush(t, d)
	flushed, has := mustRead(t, d, 0), mustHas(t, d, 0)
	mustWrite(t, d, 0, 8)
	mustFlush(t, d)
	if !bytes.Equal(waiting, all(7)) || !bytes.Equal(flushed, all(7)) || !bytes.Equal(has, all(7)) {
		t.Error("what was read has changed")
	}
}

// P3.2: Write.

func TestWriteOctets(t *testing.T) {
	d := newDisk(t, 3)
	for i := range 3 {
		if e := d.Write(i, mixed(i)); e != api.OK {
			t.Fatalf("Write(%d): %d", i, e)
		}
	}
	for i := range 3 {
		if b := mustRead(t, d, i); !bytes.Equal(b, mixed(i)) {
			t.Errorf("Read(%d): %v", i, b)
		}
	}
}

// A slice that has a sector's octets may have more memory behind them.
func TestWriteOfPiece(t *testing.T) {
	d := newDisk(t, 1)
	whole := append(all(5), all(6)...)
	if e := d.Write(0, whole[:api.Sector]); e != api.OK {
		t.Fatalf("Write of a piece: %d", e)
	}
	wantRead(t, d, 5)
	if e := d.Write(0, whole[:127]); e != api.ErrArg {
		t.Errorf("Write of 127 octets of 256: %d", e)
	}
}

func TestWriteKeepsNoArgument(t *testing.T) {
	d := newDisk(t, 2)
	b := all(7)
	if e := d.Write(0, b); e != api.OK || !bytes.Equal(b, all(7)) {
		t.Fatalf("Write: %d, %v", e, b)
	}
	clear(b)
	wantRead(t, d, 7, 0)
	if e := d.Write(1, b); e != api.OK {
		t.Fatalf("Write: %d", e)
	}
	b[5] = 99
	mustFlush(t, d)
	b[6] = 99
	wantHas(t, d, 7, 0)
}

// wantRefused holds that a write is refused with e, with the power on and off, and changes nothing.
func wantRefused(t *testing.T, i int, b []byte, e api.Errno) {
	t.Helper()
	d := spare(t)
	if got := d.Write(i, b); got != e {
		t.Errorf("Write(%d, %d octets): %d; want %d", i, len(b), got, e)
	}
	wantSpare(t, d)
	// A refused write takes nothing from the budget, and does not find that there is none.
	for _, n := range []int{1, 0} {
		mustBudget(t, d, n)
		if got := d.Write(i, b); got != e {
			t.Errorf("Write(%d, %d octets) on a budget of %d: %d; want %d", i, len(b), n, got, e)
		}
		wantPower(t, d, true)
		wantLeft(t, d, n)
	}
	d.Cut(nil)
	if got := d.Write(i, b); got != e {
		t.Errorf("Write(%d, %d octets) without power: %d; want %d", i, len(b), got, e)
	}
	wantHas(t, d, 1, 2, 0)
	wantWaits(t, d)
}

func TestWriteNoSector(t *testing.T) {
	for _, i := range noSectors(3) {
		wantRefused(t, i, all(9), api.ErrRange)
		wantRefused(t, i, all(9)[1:], api.ErrRange)
		wantRefused(t, i, nil, api.ErrRange)
	}
}

func TestWriteBadLength(t *testing.T) {
	for _, i := range []int{0, 1, 2} {
		wantRefused(t, i, nil, api.ErrArg)
		for _, n := range noLengths() {
			wantRefused(t, i, bytes.Repeat([]byte{9}, n), api.ErrArg)
		}
	}
}

func TestWriteWithoutPower(t *testing.T) {
	d := spare(t)
	d.Cut(nil)
	for range 3 {
		if e := d.Write(0, all(9)); e != api.ErrPower {
			t.Errorf("Write without power: %d", e)
		}
	}
	wantWaits(t, d)
	wantHas(t, d, 1, 2, 0)
	wantPower(t, d, false)
}

// P3.2: Flush.

func TestFlushInOrder(t *testing.T) {
	d := newDisk(t, 3)
	for k, i := range []int{2, 0, 2, 1, 0, 2} {
		mustWrite(t, d, i, byte(k+1))
	}
	wantHas(t, d, 0, 0, 0)
	mustFlush(t, d)
	wantHas(t, d, 5, 4, 6)
	wantRead(t, d, 5, 4, 6)
	wantWaits(t, d)
	wantPower(t, d, true)
}

// A flush is done once: later writes stay as they are when it is done again.
func TestFlushAgain(t *testing.T) {
	d := newDisk(t, 2)
	mustFlush(t, d)
	wantHas(t, d, 0, 0)
	mustWrite(t, d, 0, 1)
	mustFlush(t, d)
	mustWrite(t, d, 0, 2)
	mustFlush(t, d)
	mustFlush(t, d)
	wantHas(t, d, 2, 0)
}

func TestFlushWithoutPower(t *testing.T) {
	d := spare(t)
	mustBudget(t, d, 0)
	for range 3 {
		if e := d.Flush(); e != api.ErrPower {
			t.Errorf("Flush without power: %d", e)
		}
		wantPower(t, d, false)
		wantWaits(t, d, 1, 2)
		wantHas(t, d, 1, 2, 0)
	}
	d.Cut(nil)
	if e := d.Flush(); e != api.ErrPower {
		t.Errorf("Flush behind a cut: %d", e)
	}
}

// P3.3: Budget.

func TestBudgetBad(t *testing.T) {
	for _, n := range []int{-2, -3, -128, -1 << 32, math.MinInt, math.MinInt + 1} {
		for _, left := range []int{-1, 0, 1, 5} {
			d := spare(t)
			mustBudget(t, d, left)
			if e := d.Budget(n); e != api.ErrArg {
				t.Errorf("Budget(%d): %d; want ErrArg", n, e)
			}
			wantLeft(t, d, left)
			wantPower(t, d, true)
			wantWaits(t, d, 1, 2)
		}
	}
}

// Each write and each flush takes one; the one that finds none left is not done, and the power goes off.
func TestBudgetIsSpent(t *testing.T) {
	for n := range 9 {
		for kinds := range 1 << 9 {
			spendBudget(t, n, kinds)
		}
	}
}

// spendBudget does nine writes and flushes on a budget of n; a bit of kinds says of each whether it is a flush.
func spendBudget(t *testing.T, n, kinds int) {
	t.Helper()
	d := newDisk(t, 9)
	mustBudget(t, d, n)
	var waits []int
	for k := range 9 {
		wantPower(t, d, k <= n)
		want := api.OK
		if k >= n {
			want = api.ErrPower
		}
		if kinds>>k&1 == 1 {
			if e := d.Flush(); e != want {
				t.Fatalf("budget %d, kinds %b: flush %d: %d; want %d", n, kinds, k, e, want)
			}
			if k < n {
				waits = nil
			}
		} else {
			if e := d.Write(k, all(1)); e != want {
				t.Fatalf("budget %d, kinds %b: write %d: %d; want %d", n, kinds, k, e, want)
			}
			if k < n {
				waits = append(waits, k)
			}
		}
		wantWaits(t, d, waits...)
	}
}

func TestBudgetOfNothing(t *testing.T) {
	d := spare(t)
	mustBudget(t, d, 0)
	wantPower(t, d, true)
	if e := d.Write(0, all(9)); e != api.ErrPower {
		t.Errorf("Write on a budget of 0: %d", e)
	}
	wantPower(t, d, false)
	wantWaits(t, d, 1, 2)
	wantHas(t, d, 1, 2, 0)
	if _, e := d.Read(0); e != api.ErrPower {
		t.Errorf("Read behind it: %d", e)
	}
}

func TestBudgetOfOne(t *testing.T) {
	for _, first := range []bool{true, false} {
		for _, second := range []bool{true, false} {
			d := newDisk(t, 1)
			mustBudget(t, d, 1)
			if e := writeOrFlush(d, first); e != api.OK {
				t.Errorf("the first on a budget of 1: %d", e)
			}
			wantPower(t, d, true)
			if e := writeOrFlush(d, second); e != api.ErrPower {
				t.Errorf("the second on a budget of 1: %d", e)
			}
			wantPower(t, d, false)
		}
	}
}

func writeOrFlush(d *disk.Disk, write bool) api.Errno {
	if write {
		return d.Write(0, all(7))
	}
	return d.Flush()
}

// A flush counts also if nothing waits.
func TestBudgetOfEmptyFlush(t *testing.T) {
	d := newDisk(t, 1)
	mustBudget(t, d, 2)
	mustFlush(t, d)
	mustFlush(t, d)
	if e := d.Flush(); e != api.ErrPower {
		t.Errorf("the third flush on a budget of 2: %d", e)
	}
	wantPower(t, d, false)
}

func TestBudgetOfAny(t *testing.T) {
	for _, n := range []int{-1, math.MaxInt, 1 << 32, 1 << 31} {
		d := newDisk(t, 1)
		mustBudget(t, d, 0)
		mustBudget(t, d, n)
		for k := range 1000 {
			if e := writeOrFlush(d, k%3 != 2); e != api.OK {
				t.Fatalf("budget %d, number %d: %d", n, k, e)
			}
		}
		wantPower(t, d, true)
	}
}

// The last budget holds, not the sum of them.
func TestBudgetAnew(t *testing.T) {
	d := newDisk(t, 1)
	for _, n := range []int{5, 2, 0, 3, -1, 1, 0} {
		mustBudget(t, d, n)
		wantLeft(t, d, n)
	}
	mustBudget(t, d, 3)
	mustWrite(t, d, 0, 1)
	mustBudget(t, d, 3)
	wantLeft(t, d, 3)
}

// A budget gives no power.
func TestBudgetWithoutPower(t *testing.T) {
	d := newDisk(t, 1)
	d.Cut(nil)
	for _, n := range []int{-1, 0, 1, 5} {
		mustBudget(t, d, n)
		wantPower(t, d, false)
		for _, write := range []bool{true, false} {
			if e := writeOrFlush(d, write); e != api.ErrPower {
				t.Errorf("without power, on a budget of %d: %d", n, e)
			}
		}
	}
	if e := d.Budget(-2); e != api.ErrArg {
		t.Errorf("Budget(-2) without power: %d", e)
	}
}

// P3.3: Cut.

func TestCutKeeps(t *testing.T) {
	d := newDisk(t, 1)
	mustWrite(t, d, 0, 1)
	mustWrite(t, d, 0, 2)
	for _, c := range []struct {
		keep []bool
		want byte
	}{
		{nil, 0},
		{[]bool{}, 0},
		{[]bool{false}, 0},
		{[]bool{true}, 1},
		{[]bool{false, false}, 0},
		{[]bool{false, true}, 2},
		{[]bool{true, false}, 1},
		{[]bool{true, true}, 2},
		{[]bool{true, false, true}, 1},
		{[]bool{false, false, true, true, true}, 0},
		{append(make([]bool, 1000), true), 0},
		// A flag that lies behind the end of the list is none, though it is in its memory.
		{[]bool{true, true}[:1], 1},
		{[]bool{true, true}[:0], 0},
	} {
		d := d.Clone()
		before := slices.Clone(c.keep)
		d.Cut(c.keep)
		wantHas(t, d, c.want)
		wantPower(t, d, false)
		wantWaits(t, d)
		if !slices.Equal(c.keep, before) {
			t.Errorf("Cut changed its argument %v", before)
		}
	}
}

// Writes of others lie between those of a sector: the flags are those of the writes, not of the sectors.
func TestCutByWrites(t *testing.T) {
	d := newDisk(t, 2)
	for i := range 4 {
		mustWrite(t, d, i%2, byte(10+i))
	}
	c := d.Clone()
	c.Cut([]bool{true, false, false, true})
	wantHas(t, c, 10, 13)
	c = d.Clone()
	c.Cut([]bool{true, true, true})
	wantHas(t, c, 12, 11)
	c = d.Clone()
	c.Cut([]bool{false, true, false, false})
	wantHas(t, c, 0, 11)
}

func TestCutOnceOnly(t *testing.T) {
	d := spare(t)
	d.Cut([]bool{true})
	wantHas(t, d, 1, 3, 0)
	d.Cut([]bool{true, true, true})
	wantHas(t, d, 1, 3, 0)
	wantPower(t, d, false)
	d.On()
	wantRead(t, d, 1, 3, 0)
	wantWaits(t, d)
	mustFlush(t, d)
	wantHas(t, d, 1, 3, 0)
}

func TestCutOfNothing(t *testing.T) {
	d := newDisk(t, 2)
	d.Cut([]bool{true, true})
	wantHas(t, d, 0, 0)
	wantPower(t, d, false)
	wantWaits(t, d)
}

// The power is off already, as the budget is spent: what waits may be kept or lost yet.
func TestCutWithoutPower(t *testing.T) {
	d := newDisk(t, 3)
	mustBudget(t, d, 2)
	mustWrite(t, d, 0, 1)
	mustWrite(t, d, 1, 2)
	if e := d.Write(2, all(3)); e != api.ErrPower {
		t.Fatalf("Write on no budget: %d", e)
	}
	d.Cut([]bool{false, true, true})
	wantHas(t, d, 0, 2, 0)
	wantWaits(t, d)
}

// A cut is neither a write nor a flush: it needs no budget.
func TestCutOnNoBudget(t *testing.T) {
	d := spare(t)
	mustBudget(t, d, 0)
	d.Cut([]bool{true, true})
	wantHas(t, d, 1, 3, 4)
	wantPower(t, d, false)
}

// P3.3: On.

func TestOn(t *testing.T) {
	d := spare(t)
	d.Cut(nil)
	wantPower(t, d, false)
	d.On()
	wantPower(t, d, true)
	wantRead(t, d, 1, 2, 0)
	wantLeft(t, d, -1)
	mustWrite(t, d, 2, 9)
	mustFlush(t, d)
	wantHas(t, d, 1, 2, 9)
}

// What waits is lost, with the power on or off.
func TestOnWithWritesPending(t *testing.T) {
	d := spare(t)
	d.On()
	wantPower(t, d, true)
	wantWaits(t, d)
	wantRead(t, d, 1, 2, 0)
	mustFlush(t, d)
	wantHas(t, d, 1, 2, 0)

	d = spare(t)
	mustBudget(t, d, 0)
	d.Flush()
	wantWaits(t, d, 1, 2)
	d.On()
	wantPower(t, d, true)
	wantWaits(t, d)
	wantRead(t, d, 1, 2, 0)
	wantHas(t, d, 1, 2, 0)
	mustFlush(t, d)
	wantHas(t, d, 1, 2, 0)
}

func TestOnSetsBudget(t *testing.T) {
	for _, n := range []int{-1, 0, 1, 2, math.MaxInt} {
		d := newDisk(t, 1)
		mustBudget(t, d, n)
		d.On()
		wantLeft(t, d, -1)
		mustBudget(t, d, n)
		d.Cut(nil)
		d.On()
		wantLeft(t, d, -1)
		d.Cut(nil)
		mustBudget(t, d, n)
		d.On()
		wantLeft(t, d, -1)
	}
}

// P3.4: after a flush a power cut loses nothing.

func TestFlushedIsKept(t *testing.T) {
	for keep := range 1 << 4 {
		for many := range 5 {
			d := newDisk(t, 3)
			for k := range many {
				mustWrite(t, d, k*2%3, byte(k+1))
			}
			var want []byte
			for i := range 3 {
				want = append(want, mustRead(t, d, i)[0])
			}
			mustFlush(t, d)
			d.Cut(flagsOf(keep, 4))
			wantHas(t, d, want...)
			d.On()
			wantRead(t, d, want...)
			wantHas(t, d, want...)
		}
	}
}

// flagsOf are n flags, the bits of keep.
func flagsOf(keep, n int) []bool {
	out := make([]bool, n)
	for k := range out {
		out[k] = keep>>k&1 == 1
	}
	return out
}

// P3.4: a power cut keeps each write completely or not at all. Every list of up to five writes of two sectors, and every way to keep some of them.
func TestCutKeepsWholeWrites(t *testing.T) {
	for many := range 6 {
		for places := range 1 << many {
			d := newDisk(t, 2)
			before := [][]byte{mixed(100), mixed(101)}
			for i, b := range before {
				d.Write(i, b)
			}
			mustFlush(t, d)
			for k := range many {
				if e := d.Write(places>>k&1, mixed(k)); e != api.OK {
					t.Fatalf("Write: %d", e)
				}
			}
			for keep := range 1 << many {
				want := slices.Clone(before)
				for k := range many {
					if keep>>k&1 == 1 {
						want[places>>k&1] = mixed(k)
					}
				}
				c := d.Clone()
				c.Cut(flagsOf(keep, many))
				if !bytes.Equal(mustHas(t, c, 0), want[0]) || !bytes.Equal(mustHas(t, c, 1), want[1]) {
					t.Fatalf("writes %b of %d, kept %b: sectors have other octets", places, many, keep)
				}
			}
		}
	}
}

// All together: many calls, one after the other, beside a disk that is told by the chapter's words.

// model is a disk whose sectors have one octet throughout.
type model struct {
	itself []byte
	waits  []int
	octets []byte
	on     bool
	budget int
}

func (m *model) apply(keep func(k int) bool) {
	for k, i := range m.waits {
		if keep(k) {
			m.itself[i] = m.octets[k]
		}
	}
	m.waits, m.octets = nil, nil
}

func (m *model) spend() api.Errno {
	switch {
	case !m.on:
		return api.ErrPower
	case m.budget == 0:
		m.on = false
		return api.ErrPower
	case m.budget > 0:
		m.budget--
	}
	return api.OK
}

func (m *model) reads() []byte {
	out := slices.Clone(m.itself)
	for k, i := range m.waits {
		out[i] = m.octets[k]
	}
	return out
}

// step does one call, chosen by v, on both, and tells what the two answered.
func (m *model) step(d *disk.Disk, v uint32) (got, want api.Errno) {
	i, c := int(v>>8%5), byte(v>>16)
	switch v % 16 {
	case 0, 1:
		got, want = d.Flush(), m.spend()
		if want == api.OK {
			m.apply(func(int) bool { return true })
		}
	case 2:
		n := int(v>>8%8) - 1
		got, want = d.Budget(n), api.OK
		m.budget = n
	case 3:
		keep := flagsOf(int(v>>8%256), int(v>>16%9))
		d.Cut(keep)
		m.apply(func(k int) bool { return k < len(keep) && keep[k] })
		m.on = false
	case 4, 5:
		d.On()
		m.apply(func(int) bool { return false })
		m.on, m.budget = true, -1
	default:
		got, want = d.Write(i, all(c)), m.spend()
		if want == api.OK {
			m.waits, m.octets = append(m.waits, i), append(m.octets, c)
		}
	}
	return got, want
}

func TestManyCalls(t *testing.T) {
	d := newDisk(t, 5)
	m := &model{itself: make([]byte, 5), on: true, budget: -1}
	v := uint64(7)
	for k := range 20000 {
		v = v*6364136223846793005 + 1442695040888963407
		if got, want := m.step(d, uint32(v>>32)); got != want {
			t.Fatalf("call %d: %d; want %d", k, got, want)
		}
		wantPower(t, d, m.on)
		wantHas(t, d, m.itself...)
		wantWaits(t, d, m.waits...)
		if m.on {
			wantRead(t, d, m.reads()...)
		}
		if t.Failed() {
			t.Fatalf("behind call %d", k)
		}
		if k%50 == 0 {
			d = d.Clone()
		}
	}
}
