package hoard_test

import (
	"math"
	"slices"
	"testing"

	"hoard/api"
	"hoard/hoard"
)

func TestLostExample(t *testing.T) {
	h := begin(t, 2, 2, 2, 2)
	write(t, h, 2, 1, 1, 1, 1)
	write(t, h, 8, 5)
	wantMerge(t, h, 2, 9, 2)
	fail(t, h, 0, 3)
	wantRead(t, h, 0, 0, 0, 1, 1, 1, 1, 0, 0, 5, 0, 0, 0, 0, 0, 0, 0)
	wantSteps(t, h, 15)
	write(t, h, 0, 9)
	wantLog(t, h, 2, record(0, 9, 0, 0, 0))
	wantSteps(t, h, 18)
	replace(t, h, 0)
	wantRebuild(t, h, 0, 1, 1)
	wantDrive(t, h, 0, api.Drive{Unbuilt: 1})
	wantCell(t, h, 0, 0, api.Cell{9, 0, 1, 1})
	fail(t, h, 1)
	wantRead(t, h, 0, 9, 0, 1, 1)
	wantRead(t, h, 4, 1, 1, 0, 0)
	wantGone(t, h, 8, 4)
	wantGone(t, h, 8, 1)
}

// TestFailAndReplaceRefused: at all numbers, live or lost, and in the order in which the errors are named.
func TestFailAndReplaceRefused(t *testing.T) {
	for _, s := range every() {
		h := filled(t, s)
		drives := s.Data + s.Parity
		before := look(t, h, s)
		for _, d := range edges {
			want := api.ErrState
			if d < 0 || d >= drives {
				want = api.ErrDrive
				if e := h.Fail(d); e != want {
					t.Fatalf("P8: shape %+v: Fail(%d) = %d", s, d, e)
				}
			}
			if e := h.Replace(d); e != want {
				t.Fatalf("P8: shape %+v: Replace(%d) of a live drive = %d, want %d", s, d, e, want)
			}
		}
		wantState(t, h, s, before, "P1: refused Fails and Replaces")
		for d := range drives {
			fail(t, h, d)
			before = look(t, h, s)
			if e := h.Fail(d); e != api.ErrState {
				t.Fatalf("P8: shape %+v: Fail(%d) of a lost drive = %d", s, d, e)
			}
			wantState(t, h, s, before, "P1: a refused Fail")
			replace(t, h, d)
			before = look(t, h, s)
			if e := h.Replace(d); e != api.ErrState {
				t.Fatalf("P8: shape %+v: Replace(%d) of a blank drive = %d", s, d, e)
			}
			wantState(t, h, s, before, "P1: a refused Replace")
		}
	}
}

func TestRebuildRefused(t *testing.T) {
	for _, s := range every() {
		h := filled(t, s)
		fail(t, h, 0, s.Data)
		replace(t, h, 0)
		before := look(t, h, s)
		for _, d := range edges {
			for _, n := range edges {
				want := api.ErrArg
				switch {
				case d < 0 || d >= s.Data+s.Parity:
					want = api.ErrDrive
				case d == s.Data:
					want = api.ErrState
				case n >= 1:
					continue
				}
				if k, e := h.Rebuild(d, n); k != 0 || e != want {
					t.Fatalf("P1, P9: shape %+v: Rebuild(%d, %d) = %d, %d, want %d", s, d, n, k, e, want)
				}
			}
		}
		wantState(t, h, s, before, "P1: refused Rebuilds")
	}
}

// TestCallsOnLostDrives: Cell, Log and Merge name a drive or a number that there is not in their own order.
func TestCallsOnLostDrives(t *testing.T) {
	s := api.Shape{Data: 2, Parity: 2, Rows: 3, Room: 4}
	h := filled(t, s)
	fail(t, h, 1, 2)
	replace(t, h, 1)
	before := look(t, h, s)
	for _, d := range []int{1, 2} {
		for _, row := range edges {
			want := api.ErrState
			if row < 0 || row > 2 {
				want = api.ErrArg
			}
			if c, e := h.Cell(d, row); c != (api.Cell{}) || e != want {
				t.Errorf("P7: Cell(%d, %d) = %v, %d, want %d", d, row, c, e, want)
			}
		}
	}
	if l, e := h.Log(2); l != nil || e != api.ErrState {
		t.Errorf("P7: Log of a lost drive = %v, %d", l, e)
	}
	if l, e := h.Log(1); l != nil || e != api.ErrDrive {
		t.Errorf("P7: Log of a data drive = %v, %d", l, e)
	}
	for _, n := range edges {
		if k, e := h.Merge(2, n); k != 0 || e != api.ErrState {
			t.Errorf("P7: Merge(2, %d) of a lost drive = %d, %d", n, k, e)
		}
		if k, e := h.Merge(1, n); k != 0 || e != api.ErrDrive {
			t.Errorf("P7: Merge(1, %d) of a data drive = %d, %d", n, k, e)
		}
	}
	wantDrive(t, h, 1, api.Drive{Unbuilt: 3})
	wantDrive(t, h, 2, api.Drive{Lost: true})
	wantState(t, h, s, before, "P1: refused Cells, Logs and Merges")
	fail(t, h, 1)
	if l, e := h.Log(1); l != nil || e != api.ErrDrive {
		t.Errorf("P7: Log of a lost data drive = %v, %d", l, e)
	}
	if k, e := h.Merge(1, 0); k != 0 || e != api.ErrDrive {
		t.Errorf("P7: Merge of a lost data drive = %d, %d", k, e)
	}
	wantDrive(t, h, 1, api.Drive{Lost: true})
}

// TestFailLeavesNothing: neither cells nor log come back when the drive is replaced.
func TestFailLeavesNothing(t *testing.T) {
	for d := range 4 {
		h := begin(t, 2, 2, 3, 8)
		write(t, h, 0, 1, 2, 3, 4, 5, 6, 7, 8, 9)
		wantMerge(t, h, 3, 1, 1)
		fail(t, h, d)
		wantDrive(t, h, d, api.Drive{Lost: true})
		replace(t, h, d)
		wantDrive(t, h, d, api.Drive{Unbuilt: 3})
		for row := range 3 {
			wantNoCell(t, h, d, row)
		}
		if d >= 2 {
			wantLog(t, h, d)
			wantMerge(t, h, d, 5, 0)
		}
		wantRead(t, h, 0, 1, 2, 3, 4, 5, 6, 7, 8, 9)
	}
}

// TestEachLoss: of each shape and each choice of lost drives, blank or not, what is gone is what the document says.
func TestEachLoss(t *testing.T) {
	for _, s := range every() {
		if s.Rows > 2 || s.Room != 3 {
			continue
		}
		for choice := range 1 << (2 * (s.Data + s.Parity)) {
			h, m := laid(t, s, choice)
			wantState(t, h, s, m.look(), "P5, P8: lost drives")
		}
	}
}

// TestOneLossWithOneParity: and the loss of a second drive, data or parity, is one too many.
func TestOneLossWithOneParity(t *testing.T) {
	for a := range 4 {
		for b := range 4 {
			h := begin(t, 3, 1, 1, 2)
			write(t, h, 0, 1, 2, 3, 4, 5, 6, 7, 8, 9, 10, 11, 12)
			fail(t, h, a)
			wantRead(t, h, 0, 1, 2, 3, 4, 5, 6, 7, 8, 9, 10, 11, 12)
			if a == b {
				continue
			}
			fail(t, h, b)
			for d := range 3 {
				if d == a || d == b {
					wantGone(t, h, d*4, 4)
				} else {
					wantRead(t, h, d*4, byte(d*4+1), byte(d*4+2), byte(d*4+3), byte(d*4+4))
				}
			}
		}
	}
}

// TestReadOfSomeGoneBlocks: only a byte that lies in a gone block makes a Read or Write fail.
func TestReadOfSomeGoneBlocks(t *testing.T) {
	s := api.Shape{Data: 3, Parity: 1, Rows: 2, Room: 1}
	h := filled(t, s)
	all := look(t, h, s).Bytes
	fail(t, h, 1, 3)
	before := look(t, h, s)
	isGone := func(at int) bool { return at/4%3 == 1 }
	for from := range size(s) + 1 {
		for end := from; end <= size(s); end++ {
			gone := false
			for at := from; at < end; at++ {
				gone = gone || isGone(at)
			}
			if !gone {
				wantRead(t, h, from, all[from:end]...)
				write(t, h, from, all[from:end]...)
				continue
			}
			wantGone(t, h, from, end-from)
			if e := h.Write(from, all[from:end]); e != api.ErrLost {
				t.Fatalf("P6: Write(%d, what it was) = %d", from, e)
			}
		}
	}
	wantState(t, h, s, before, "P1: refused Reads and Writes, and Writes of what it was")
	for _, from := range []int{math.MinInt, -1, 4, 23, 24, 25, math.MaxInt} {
		if l, e := h.Read(from, 21); l != nil || e != api.ErrRange {
			t.Errorf("P1, P5: Read(%d, 21) = %v, %d", from, l, e)
		}
		if e := h.Write(from, make([]byte, 21)); e != api.ErrRange {
			t.Errorf("P1, P6: Write(%d, 21 bytes) = %d", from, e)
		}
	}
	if l, e := h.Read(4, math.MaxInt); l != nil || e != api.ErrRange {
		t.Errorf("P1, P5: Read(4, the greatest) = %v, %d", l, e)
	}
	if l, e := h.Read(4, -1); l != nil || e != api.ErrRange {
		t.Errorf("P1, P5: Read(4, -1) = %v, %d", l, e)
	}
}

// TestWriteRefusedWhole: blocks ahead of a gone one are not written either.
func TestWriteRefusedWhole(t *testing.T) {
	s := api.Shape{Data: 2, Parity: 1, Rows: 2, Room: 2}
	h := filled(t, s)
	fail(t, h, 1)
	replace(t, h, 1)
	wantRebuild(t, h, 1, 1, 1)
	fail(t, h, 0)
	before := look(t, h, s)
	if !slices.Equal(before.Gone, []bool{false, false, true, true}) {
		t.Fatalf("P5: gone are %v", before.Gone)
	}
	for _, from := range []int{0, 4, 7} {
		if e := h.Write(from, []byte{200, 201, 202, 203, 204, 205, 206, 207, 208}[:9-from]); e != api.ErrLost {
			t.Errorf("P6: Write(%d, up to byte 8) = %d", from, e)
		}
	}
	wantState(t, h, s, before, "P1: refused Writes")
}

// TestStepsOfAWrite: a step for the note, for each available parity cell, for a live data drive, and to strike the note out.
func TestStepsOfAWrite(t *testing.T) {
	for _, c := range []struct {
		lost, blank []int
		steps       int
	}{
		{nil, nil, 5},
		{[]int{0}, nil, 4},
		{nil, []int{0}, 5},
		{[]int{2}, nil, 4},
		{nil, []int{2}, 4},
		{[]int{2, 3}, nil, 3},
		{nil, []int{2, 3}, 3},
		{[]int{2}, []int{3}, 3},
		{[]int{0, 2}, nil, 3},
		{[]int{0}, []int{3}, 3},
		{[]int{2}, []int{0}, 4},
		{[]int{1}, nil, 5},
		{nil, []int{1}, 5},
		{[]int{1}, []int{0}, 5},
		{[]int{0, 1}, nil, 4},
		{[]int{1, 2, 3}, nil, 3},
	} {
		h := begin(t, 2, 2, 1, 4)
		write(t, h, 0, 1, 2, 3, 4, 5, 6, 7, 8)
		fail(t, h, c.lost...)
		fail(t, h, c.blank...)
		replace(t, h, c.blank...)
		write(t, h, 0, 1, 2)
		wantSteps(t, h, 10)
		write(t, h, 1, 99)
		wantSteps(t, h, 10+c.steps)
		wantRead(t, h, 0, 1, 99, 3, 4)
		for d := range 4 {
			if slices.Contains(c.lost, d) {
				wantDrive(t, h, d, api.Drive{Lost: true})
			}
			if slices.Contains(c.blank, d) {
				wantDrive(t, h, d, api.Drive{Unbuilt: min(d, 1)})
			}
			if d >= 2 && !slices.Contains(c.lost, d) && !slices.Contains(c.blank, d) {
				wantDrive(t, h, d, api.Drive{Records: 3})
			}
		}
	}
}

// TestWriteBuilds: a Write of something else builds the one cell, on a blank drive; a Write of the same does not.
func TestWriteBuilds(t *testing.T) {
	h := begin(t, 2, 1, 3, 8)
	write(t, h, 0, 1, 2, 3, 4, 5, 6, 7, 8, 9, 10, 11, 12, 13, 14, 15, 16)
	fail(t, h, 1)
	replace(t, h, 1)
	write(t, h, 4, 5, 6, 7, 8)
	write(t, h, 4)
	wantDrive(t, h, 1, api.Drive{Unbuilt: 3})
	write(t, h, 14, 99)
	wantDrive(t, h, 1, api.Drive{Unbuilt: 2})
	wantNoCell(t, h, 1, 0)
	wantCell(t, h, 1, 1, api.Cell{13, 14, 99, 16})
	wantNoCell(t, h, 1, 2)
	wantRead(t, h, 0, 1, 2, 3, 4, 5, 6, 7, 8, 9, 10, 11, 12, 13, 14, 99, 16)
	fail(t, h, 0)
	wantRead(t, h, 8, 9, 10, 11, 12, 13, 14, 99, 16)
	wantGone(t, h, 0, 1)
	wantGone(t, h, 4, 1)
}

// TestRecordsOfBuiltCellsAlone: a live parity drive gets a record only if its cell in the row is built, and merges only then.
func TestRecordsOfBuiltCellsAlone(t *testing.T) {
	h := begin(t, 1, 2, 3, 1)
	write(t, h, 0, 1, 0, 0, 0, 2, 0, 0, 0, 3)
	fail(t, h, 2)
	replace(t, h, 2)
	write(t, h, 0, 7)
	wantLog(t, h, 2)
	wantLog(t, h, 1, record(0, 6, 0, 0, 0))
	wantRebuild(t, h, 2, 2, 2)
	wantCell(t, h, 2, 0, api.Cell{7})
	wantCell(t, h, 2, 1, api.Cell{2})
	write(t, h, 4, 8)
	wantLog(t, h, 2, record(1, 10, 0, 0, 0))
	write(t, h, 8, 9)
	wantLog(t, h, 2, record(1, 10, 0, 0, 0))
	wantCell(t, h, 2, 1, api.Cell{2})
	wantNoCell(t, h, 2, 2)
	wantRebuild(t, h, 2, 9, 1)
	wantLog(t, h, 2, record(1, 10, 0, 0, 0))
	wantCell(t, h, 2, 2, api.Cell{9})
	wantMerge(t, h, 2, 9, 1)
	wantCell(t, h, 2, 1, api.Cell{8})
	fail(t, h, 0, 1)
	wantRead(t, h, 0, 7, 0, 0, 0, 8, 0, 0, 0, 9, 0, 0, 0)
}

// TestLogsCount: what a lost data drive held is found by the records too, of its row alone.
func TestLogsCount(t *testing.T) {
	for merged := range 4 {
		h := begin(t, 3, 2, 2, 8)
		write(t, h, 0, 1, 2, 3, 4)
		write(t, h, 4, 5, 6, 7, 8)
		write(t, h, 12, 9, 9, 9, 9)
		if merged > 0 {
			wantMerge(t, h, 3, merged, merged)
			wantMerge(t, h, 4, 4-merged, 4-merged)
		}
		fail(t, h, 0, 1)
		wantRead(t, h, 0, 1, 2, 3, 4, 5, 6, 7, 8, 0, 0, 0, 0, 9, 9, 9, 9, 0, 0, 0, 0)
		write(t, h, 2, 30, 40, 50, 60)
		wantRead(t, h, 0, 1, 2, 30, 40, 50, 60, 7, 8, 0, 0, 0, 0, 9, 9, 9, 9, 0, 0, 0, 0)
	}
}

// TestRebuildInOrder: the first rows first, so many as were asked for, past those that are built.
func TestRebuildInOrder(t *testing.T) {
	s := api.Shape{Data: 2, Parity: 2, Rows: 6, Room: 2}
	for d := range 4 {
		h := filled(t, s)
		wantMerge(t, h, 2, 2, 2)
		wantMerge(t, h, 3, 2, 2)
		want := look(t, h, s)
		wantRebuild(t, h, d, 6, 0)
		fail(t, h, d)
		replace(t, h, d)
		for i, n := range []int{1, 2, 4} {
			wantRebuild(t, h, d, n, []int{1, 2, 3}[i])
			built := []int{1, 3, 6}[i]
			wantDrive(t, h, d, api.Drive{Unbuilt: 6 - built})
			for row := range 6 {
				if row < built {
					wantCell(t, h, d, row, want.Cells[d][row])
				} else {
					wantNoCell(t, h, d, row)
				}
			}
		}
		wantRebuild(t, h, d, math.MaxInt, 0)
		wantState(t, h, s, want, "P9: all is built again")
	}
}

// TestRebuildPassesOver: rows with a gone cell, data or parity drive, and rows that a Write has built.
func TestRebuildPassesOver(t *testing.T) {
	h := begin(t, 2, 2, 4, 2)
	for b := range 8 {
		write(t, h, b*4, byte(b+1))
	}
	fail(t, h, 0, 3)
	replace(t, h, 0)
	write(t, h, 9, 50)
	wantRebuild(t, h, 0, 1, 1)
	wantDrive(t, h, 0, api.Drive{Unbuilt: 2})
	wantCell(t, h, 0, 0, api.Cell{1})
	wantCell(t, h, 0, 1, api.Cell{3, 50})
	wantNoCell(t, h, 0, 2)
	fail(t, h, 1)
	replace(t, h, 1, 3)
	wantGone(t, h, 16, 4)
	wantRead(t, h, 0, 1, 0, 0, 0, 2, 0, 0, 0)
	wantRebuild(t, h, 0, 9, 0)
	wantRebuild(t, h, 3, 9, 2)
	wantRebuild(t, h, 1, 9, 2)
	wantCell(t, h, 3, 1, api.Cell{3 ^ 8, 50})
	wantCell(t, h, 1, 1, api.Cell{4})
	wantNoCell(t, h, 3, 2)
	wantNoCell(t, h, 1, 3)
}

// TestRebuildFreesForTheNextLoss: what was built counts in full, row by row.
func TestRebuildFreesForTheNextLoss(t *testing.T) {
	h := begin(t, 4, 2, 2, 3)
	var all []byte
	for i := range 32 {
		all = append(all, byte(i*9+4))
	}
	write(t, h, 0, all...)
	for d := range 6 {
		e := (d + 3) % 6
		fail(t, h, d, e)
		replace(t, h, e, d)
		wantRead(t, h, 0, all...)
		wantRebuild(t, h, e, 1, 1)
		wantRead(t, h, 0, all...)
		wantRebuild(t, h, d, 2, 2)
		wantRebuild(t, h, e, 2, 1)
		wantRead(t, h, 0, all...)
	}
}

// TestGoneForGood: a gone block does not come back by Replace and Rebuild, and its row's other blocks go on.
func TestGoneForGood(t *testing.T) {
	h := begin(t, 2, 1, 1, 2)
	write(t, h, 0, 1, 2, 3, 4, 5, 6, 7, 8)
	fail(t, h, 0, 2)
	replace(t, h, 0, 2)
	wantRebuild(t, h, 0, 1, 0)
	wantRebuild(t, h, 2, 1, 0)
	wantGone(t, h, 0, 4)
	wantGone(t, h, 3, 2)
	write(t, h, 4, 50)
	wantRead(t, h, 4, 50, 6, 7, 8)
	wantLog(t, h, 2)
	wantDrive(t, h, 0, api.Drive{Unbuilt: 1})
	wantDrive(t, h, 2, api.Drive{Unbuilt: 1})
}

// TestHoardsLoseTheirOwnDrives: the loss of a drive of one hoard is none of another.
func TestHoardsLoseTheirOwnDrives(t *testing.T) {
	s := api.Shape{Data: 2, Parity: 2, Rows: 2, Room: 2}
	var all [2]*hoard.Hoard
	for i := range all {
		all[i] = filled(t, s)
	}
	before := look(t, all[1], s)
	for d := range 4 {
		fail(t, all[0], d)
		replace(t, all[0], d)
		wantRebuild(t, all[0], d, 9, 2)
		write(t, all[0], d, 77)
		wantState(t, all[1], s, before, "P2: another hoard lost a drive")
	}
}

// TestListsFromLostDrives: bytes that were found by equations are the caller's too.
func TestListsFromLostDrives(t *testing.T) {
	s := api.Shape{Data: 3, Parity: 2, Rows: 2, Room: 3}
	h := filled(t, s)
	fail(t, h, 0, 2)
	before := look(t, h, s)
	for range 2 {
		l, _ := h.Read(0, size(s))
		k, _ := h.Read(0, size(s))
		spoilBytes(l)
		if !slices.Equal(k, before.Bytes) {
			t.Fatalf("P2: two Reads share memory: %v", k)
		}
		r, _ := h.Log(3)
		spoilRecords(r)
		wantState(t, h, s, before, "P2: after a change of what came out")
	}
}
