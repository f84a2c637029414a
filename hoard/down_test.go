package hoard_test

import (
	"math"
	"slices"
	"testing"

	"hoard/api"
	"hoard/hoard"
)

func TestDownExample(t *testing.T) {
	for _, c := range []struct{ n, want int }{{0, 0}, {1, 4}, {5, 4}, {6, 5}} {
		h := begin(t, 2, 2, 2, 2)
		breakOff(t, h, c.n)
		goDown(t, h, 0, 7, 7, 7, 7, 7)
		mount(t, h)
		wantSteps(t, h, c.n)
		all := make([]byte, 16)
		for i := range c.want {
			all[i] = 7
		}
		wantRead(t, h, 0, all...)
	}
}

// TestDownAtEachStep: what is on each drive after Mount, from the step at which the block is not yet noted on.
func TestDownAtEachStep(t *testing.T) {
	for n := range 6 {
		h := begin(t, 2, 2, 1, 1)
		write(t, h, 4, 1, 2, 3, 4)
		breakOff(t, h, n)
		if n < 5 {
			goDown(t, h, 6, 0, 4)
			mount(t, h)
		} else {
			write(t, h, 6, 0, 4)
		}
		wantSteps(t, h, 5+n)
		if n == 0 {
			wantCell(t, h, 1, 0, api.Cell{1, 2, 3, 4})
			wantCell(t, h, 2, 0, api.Cell{})
			wantCell(t, h, 3, 0, api.Cell{})
			wantLog(t, h, 2, record(0, 1, 2, 3, 4))
			wantLog(t, h, 3, record(0, 2, 4, 6, 8))
			continue
		}
		wantCell(t, h, 1, 0, api.Cell{1, 2, 0, 4})
		wantCell(t, h, 2, 0, api.Cell{1, 2, 3, 4})
		wantCell(t, h, 3, 0, api.Cell{2, 4, 6, 8})
		wantLog(t, h, 2, record(0, 0, 0, 3, 0))
		wantLog(t, h, 3, record(0, 0, 0, 6, 0))
	}
}

// TestDownWithLostDrives: with each choice of lost and blank drives, at each step of a Write of nearly all bytes and of one in each block.
func TestDownWithLostDrives(t *testing.T) {
	for _, s := range every() {
		if s.Rows > 1 && s.Data > 1 || s.Rows > 2 || s.Room%2 == 0 || s.Room > 3 || s.Data > 3 {
			continue
		}
		for choice := range 1 << (2 * (s.Data + s.Parity)) {
			for n := range s.Data*s.Rows*(3+s.Parity) + 1 {
				wantDownAt(t, s, choice, n, 1, size(s)-2)
			}
			for n := range s.Parity + 4 {
				for b := range s.Data * s.Rows {
					wantDownAt(t, s, choice, n, b*4+2, 1)
				}
			}
		}
	}
}

// wantDownAt: after a Break(n) a Write of so many bytes, and the same Write again.
func wantDownAt(t *testing.T, s api.Shape, choice, n, from, length int) {
	t.Helper()
	h, m := laid(t, s, choice)
	data := make([]byte, length)
	for i := range data {
		data[i] = byte(i*11 + 100)
	}
	breakOff(t, h, n)
	m.breakOff(n)
	for range 2 {
		e, f := h.Write(from, data), m.write(from, data)
		if e != f {
			t.Fatalf("P6, P10: shape %+v, choice %b: Break(%d), Write(%d, %d bytes) = %d, want %d", s, choice, n, from, length, e, f)
		}
		if e == api.ErrDown {
			wantDown(t, h)
			mount(t, h)
			m.mount()
		}
		wantState(t, h, s, m.look(), "P10, P11: a Write that was broken off")
	}
}

// TestMountOfALostDrivesBlock: what the lost drive held is not in doubt, though one log has the change and the other has not.
func TestMountOfALostDrivesBlock(t *testing.T) {
	for n := 1; n < 4; n++ {
		h := begin(t, 3, 2, 1, 4)
		write(t, h, 0, 1, 2, 3, 4, 5, 6, 7, 8, 9, 10, 11, 12)
		wantMerge(t, h, 3, 3, 3)
		wantMerge(t, h, 4, 3, 3)
		fail(t, h, 1, 2)
		breakOff(t, h, n)
		goDown(t, h, 5, 16, 17)
		mount(t, h)
		wantLog(t, h, 3, record(0, 0, 22, 22, 0))
		wantLog(t, h, 4, record(0, 0, 44, 44, 0))
		wantRead(t, h, 0, 1, 2, 3, 4, 5, 16, 17, 8, 9, 10, 11, 12)
		wantSteps(t, h, 15+n)
	}
}

// TestMountBuilds: the block's cell on a blank drive is built by Mount as it would have been by the Write, and no other.
func TestMountBuilds(t *testing.T) {
	for n := range 4 {
		h := begin(t, 2, 1, 2, 4)
		write(t, h, 0, 1, 2, 3, 4, 5, 6, 7, 8)
		fail(t, h, 0)
		replace(t, h, 0)
		breakOff(t, h, n)
		goDown(t, h, 3, 40, 50, 6, 7, 8, 90)
		mount(t, h)
		wantSteps(t, h, 8+n)
		wantNoCell(t, h, 0, 1)
		wantRead(t, h, 4, 5, 6, 7, 8, 0, 0, 0, 0)
		if n == 0 {
			wantNoCell(t, h, 0, 0)
			wantRead(t, h, 0, 1, 2, 3, 4)
			continue
		}
		wantCell(t, h, 0, 0, api.Cell{1, 2, 3, 40})
		wantLog(t, h, 2, record(0, 1, 2, 3, 4), record(0, 5, 6, 7, 8), record(0, 0, 0, 0, 44))
	}
}

// TestMountMergesOnce: a log that was full when the hoard went down, at a step ahead of its own or behind it.
func TestMountMergesOnce(t *testing.T) {
	for room := 1; room <= 8; room++ {
		for n := 1; n < 5; n++ {
			h := begin(t, 1, 2, 6, room)
			for i := range room {
				write(t, h, i%6*4, byte(i+1))
			}
			before, _ := h.Log(1)
			breakOff(t, h, n)
			goDown(t, h, 23, 99)
			mount(t, h)
			want := append(before[1:], record(5, 0, 0, 0, 99))
			wantLog(t, h, 1, want...)
			wantLog(t, h, 2, want...)
			wantCell(t, h, 1, 0, api.Cell{1})
			wantCell(t, h, 2, 0, api.Cell{1})
		}
	}
}

func TestBreakRefused(t *testing.T) {
	s := api.Shape{Data: 2, Parity: 2, Rows: 2, Room: 2}
	for _, n := range []int{math.MinInt, math.MinInt + 1, -1000, -2, -1, 1001, 1002, 1 << 32, 1 << 62, math.MaxInt} {
		h := filled(t, s)
		breakOff(t, h, 3)
		before := look(t, h, s)
		if e := h.Break(n); e != api.ErrArg {
			t.Errorf("P10: Break(%d) = %d", n, e)
		}
		wantState(t, h, s, before, "P1: a refused Break")
		goDown(t, h, 0, 0, 0, 0, 0, 0) // The earlier Break is still to come.
		mount(t, h)
		wantSteps(t, h, before.Steps+3)
	}
}

func TestGreatestBreak(t *testing.T) {
	h := begin(t, 1, 1, 1, 1)
	breakOff(t, h, api.MaxBreak)
	for i := range 250 {
		write(t, h, 0, byte(i+1))
	}
	wantSteps(t, h, 1000)
	goDown(t, h, 0, 255)
	mount(t, h)
	wantSteps(t, h, 1000)
	wantRead(t, h, 0, 250)
	breakOff(t, h, 999)
	for i := range 249 {
		write(t, h, 0, byte(i+1))
	}
	goDown(t, h, 0, 255)
	mount(t, h)
	wantSteps(t, h, 1999)
	wantRead(t, h, 0, 255)
}

// TestLaterBreak: it counts from where it is called on, and what is left of an earlier one is no more.
func TestLaterBreak(t *testing.T) {
	for _, c := range [][2]int{{0, 6}, {6, 0}, {5, 5}, {996, 2}, {4, 9}, {9, 4}} {
		for ahead := range 2 {
			h := begin(t, 1, 1, 3, 2)
			breakOff(t, h, c[0]+4*ahead)
			if ahead == 1 {
				write(t, h, 8, 1)
			}
			breakOff(t, h, c[1])
			e := h.Write(0, []byte{1, 2, 3, 4, 5})
			if (e == api.ErrDown) != (c[1] < 8) {
				t.Errorf("P10: Break(%d), Break(%d), Write = %d", c[0], c[1], e)
			}
			if e == api.OK {
				goDown(t, h, 8, 5, 6)
			}
			mount(t, h)
			wantSteps(t, h, c[1]+4*ahead)
		}
	}
}

// TestBreakSpansWrites: steps of all blocks and Writes count, those that a lost drive spares do not.
func TestBreakSpansWrites(t *testing.T) {
	h := begin(t, 2, 2, 2, 2)
	fail(t, h, 3)
	breakOff(t, h, 13)
	write(t, h, 3, 1, 2)
	fail(t, h, 0)
	write(t, h, 0, 9)
	wantSteps(t, h, 11)
	goDown(t, h, 15, 7)
	mount(t, h)
	wantSteps(t, h, 13)
	wantRead(t, h, 0, 9, 0, 0, 1, 2, 0, 0, 0, 0, 0, 0, 0, 0, 0, 0, 7)
}

// TestWithoutAStepTheBreakWaits: neither what does no step nor what is refused lets the hoard go down, nor uses the Break up.
func TestWithoutAStepTheBreakWaits(t *testing.T) {
	s := api.Shape{Data: 2, Parity: 1, Rows: 2, Room: 4}
	h := filled(t, s)
	all := look(t, h, s).Bytes
	breakOff(t, h, 0)
	write(t, h, 0)
	write(t, h, 0, all...)
	write(t, h, 5, all[5:9]...)
	for _, from := range []int{-1, 17, math.MinInt, math.MaxInt} {
		if e := h.Write(from, nil); e != api.ErrRange {
			t.Errorf("P6: Write(%d, nil) = %d", from, e)
		}
	}
	if e := h.Write(16, []byte{1}); e != api.ErrRange {
		t.Errorf("P6: Write behind the end = %d", e)
	}
	if e := h.Mount(); e != api.ErrState {
		t.Errorf("P11: Mount of a hoard that is up = %d", e)
	}
	wantMerge(t, h, 2, 1, 1)
	fail(t, h, 0)
	write(t, h, 0, all...)
	replace(t, h, 0)
	wantRebuild(t, h, 0, 1, 1)
	fail(t, h, 1)
	wantGone(t, h, 8, 4)
	before := look(t, h, s)
	goDown(t, h, 0, all[0]+1)
	mount(t, h)
	wantState(t, h, s, before, "P10, P11: down at the first step")
}

// TestUnchangedBlocksAreNoSteps: in the midst of a Write they are passed over, and the Break falls on a later block.
func TestUnchangedBlocksAreNoSteps(t *testing.T) {
	h := begin(t, 3, 1, 2, 8)
	write(t, h, 4, 1, 2, 3, 4)
	breakOff(t, h, 5)
	goDown(t, h, 0, 9, 0, 0, 0, 1, 2, 3, 4, 8, 0, 0, 0, 7)
	mount(t, h)
	wantSteps(t, h, 9)
	wantRead(t, h, 0, 9, 0, 0, 0, 1, 2, 3, 4, 8, 0, 0, 0, 0)
}

func TestNoBreakIsLeft(t *testing.T) {
	for n := range 5 {
		h := begin(t, 2, 2, 2, 2)
		breakOff(t, h, 1000)
		breakOff(t, h, n)
		goDown(t, h, 0, 1)
		mount(t, h)
		for i := range 300 {
			write(t, h, 4, byte(i+1))
		}
		wantSteps(t, h, 1500+n)
	}
}

// TestNoNoteIsLeft: neither of a block that was written whole nor of one that Mount has finished.
func TestNoNoteIsLeft(t *testing.T) {
	s := api.Shape{Data: 2, Parity: 2, Rows: 2, Room: 3}
	for n := 1; n < 5; n++ {
		h := begin(t, 2, 2, 2, 3)
		write(t, h, 0, 1)
		breakOff(t, h, n)
		goDown(t, h, 4, 2)
		mount(t, h)
		write(t, h, 8, 3)
		write(t, h, 0, 4)
		before := look(t, h, s)
		breakOff(t, h, 0)
		goDown(t, h, 4, 5, 6, 7, 8, 9)
		mount(t, h)
		wantState(t, h, s, before, "P11: Mount with no block noted")
	}
}

func TestMountRefused(t *testing.T) {
	for _, s := range every() {
		h := filled(t, s)
		fail(t, h, s.Data-1)
		replace(t, h, s.Data-1)
		before := look(t, h, s)
		for range 2 {
			if e := h.Mount(); e != api.ErrState {
				t.Fatalf("P11: shape %+v: Mount of a hoard that is up = %d", s, e)
			}
			wantState(t, h, s, before, "P1: a refused Mount")
		}
		breakOff(t, h, 2)
		goDown(t, h, size(s)-1, before.Bytes[size(s)-1]+1)
		mount(t, h)
		before = look(t, h, s)
		if e := h.Mount(); e != api.ErrState {
			t.Fatalf("P11: shape %+v: Mount once more = %d", s, e)
		}
		wantState(t, h, s, before, "P1: a refused Mount")
	}
}

// TestEachCallOfAHoardThatIsDown: at numbers that may be and others, ErrDown comes first, and nothing changes.
func TestEachCallOfAHoardThatIsDown(t *testing.T) {
	s := api.Shape{Data: 2, Parity: 2, Rows: 2, Room: 2}
	for n := range 8 {
		var all [2]*hoard.Hoard
		for i := range all {
			h := filled(t, s)
			fail(t, h, 1, 3)
			replace(t, h, 1)
			breakOff(t, h, n)
			goDown(t, h, 0, 50, 60, 70, 80, 90)
			all[i] = h
		}
		for _, a := range edges {
			wantEachDown(t, all[0], a)
		}
		mount(t, all[0])
		mount(t, all[1])
		wantState(t, all[0], s, look(t, all[1], s), "P1: calls of a hoard that is down")
		for _, h := range all {
			write(t, h, 0, 1, 2, 3, 4) // No Break is to come.
		}
	}
}

func wantEachDown(t *testing.T, h *hoard.Hoard, a int) {
	t.Helper()
	for _, b := range edges {
		l, e := h.Read(a, b)
		c, f := h.Cell(a, b)
		k, g := h.Merge(a, b)
		n, i := h.Rebuild(a, b)
		if l != nil || c != (api.Cell{}) || k != 0 || n != 0 {
			t.Fatalf("P1: down, numbers %d, %d: %v, %v, %d, %d", a, b, l, c, k, n)
		}
		all := []api.Errno{e, f, g, i, h.Corrupt(a, b, 0, 1), h.Corrupt(0, 0, a, 1)}
		if !slices.Equal(all, slices.Repeat([]api.Errno{api.ErrDown}, len(all))) {
			t.Fatalf("P1: down, numbers %d, %d: %v", a, b, all)
		}
	}
	d, e := h.Drive(a)
	l, f := h.Log(a)
	n, g := h.Steps()
	k, i := h.Scrub(a)
	if d != (api.Drive{}) || l != nil || n != 0 || k != 0 {
		t.Fatalf("P1: down, number %d: %+v, %v, %d, %d", a, d, l, n, k)
	}
	all := []api.Errno{e, f, g, i, h.Write(a, nil), h.Write(a, []byte{5, 6, 7, 8, 9}), h.Fail(a), h.Replace(a), h.Break(a)}
	if !slices.Equal(all, slices.Repeat([]api.Errno{api.ErrDown}, len(all))) {
		t.Fatalf("P1: down, number %d: %v", a, all)
	}
}

// TestListIsNotKeptForMount: what was handed in may change before Mount, and is not written into.
func TestListIsNotKeptForMount(t *testing.T) {
	for n := range 10 {
		h := begin(t, 2, 2, 2, 2)
		mine := []byte{1, 2, 3, 4, 5, 6, 7, 8, 9}
		breakOff(t, h, n)
		if e := h.Write(0, mine[:8]); e != api.ErrDown {
			t.Fatalf("P10: Break(%d), Write = %d", n, e)
		}
		if !slices.Equal(mine, []byte{1, 2, 3, 4, 5, 6, 7, 8, 9}) {
			t.Fatalf("P2: what was handed in has become %v", mine)
		}
		spoilBytes(mine)
		kept := slices.Clone(mine)
		mount(t, h)
		want := make([]byte, 8)
		copy(want, []byte{1, 2, 3, 4, 5, 6, 7, 8}[:(n+4)/5*4])
		wantRead(t, h, 0, want...)
		if !slices.Equal(mine, kept) {
			t.Fatalf("P2: Mount has made %v of %v", mine, kept)
		}
	}
}

// TestHoardsGoDownAlone: neither a Break, nor a note, nor a Mount of one hoard is one of another.
func TestHoardsGoDownAlone(t *testing.T) {
	s := api.Shape{Data: 2, Parity: 2, Rows: 2, Room: 2}
	a, b, c := filled(t, s), filled(t, s), filled(t, s)
	before := look(t, c, s)
	breakOff(t, a, 2)
	breakOff(t, b, 0)
	goDown(t, a, 0, 90)
	wantState(t, b, s, before, "P2: another hoard went down")
	goDown(t, b, 0, 91)
	wantState(t, c, s, before, "P2: another hoard went down")
	mount(t, b)
	wantDown(t, a)
	wantState(t, b, s, before, "P2, P11: Mount with no block noted")
	if e := c.Mount(); e != api.ErrState {
		t.Errorf("P2, P11: Mount of a hoard that is up = %d", e)
	}
	write(t, c, 4, 92)
	mount(t, a)
	wantRead(t, a, 0, 90)
	wantRead(t, b, 0, before.Bytes[0])
}
