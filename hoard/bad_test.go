package hoard_test

import (
	"testing"

	"hoard/api"
	"hoard/hoard"
)

func corrupt(t *testing.T, h *hoard.Hoard, d, row, at int, by byte) {
	t.Helper()
	if e := h.Corrupt(d, row, at, by); e != api.OK {
		t.Fatalf("P12: Corrupt(%d, %d, %d, %d) = %d", d, row, at, by, e)
	}
}

func wantScrub(t *testing.T, h *hoard.Hoard, row, want int) {
	t.Helper()
	if d, e := h.Scrub(row); d != want || e != api.OK {
		t.Fatalf("P13: Scrub(%d) = %d, %d, want %d", row, d, e, want)
	}
}

// wantBad: the Scrub is refused with this error, and nothing is changed by it.
func wantBad(t *testing.T, h *hoard.Hoard, s api.Shape, row int, want api.Errno) {
	t.Helper()
	before := look(t, h, s)
	if d, e := h.Scrub(row); d != 0 || e != want {
		t.Fatalf("P1, P13: shape %+v: Scrub(%d) = %d, %d, want 0, %d", s, row, d, e, want)
	}
	wantState(t, h, s, before, "P1, P13: a refused Scrub")
}

// mergeAll empties the logs.
func mergeAll(t *testing.T, h *hoard.Hoard, s api.Shape) {
	t.Helper()
	for d := s.Data; d < s.Data+s.Parity; d++ {
		if _, e := h.Merge(d, 8); e != api.OK {
			t.Fatalf("P7: Merge(%d, 8) = %d", d, e)
		}
	}
}

func TestBadExample(t *testing.T) {
	s := api.Shape{Data: 2, Parity: 2, Rows: 2, Room: 2}
	h := begin(t, 2, 2, 2, 2)
	before := look(t, h, s)
	corrupt(t, h, 1, 0, 2, 77)
	wantRead(t, h, 4, 0, 0, 77, 0)
	wantScrub(t, h, 0, 1)
	wantState(t, h, s, before, "P13: the cell was mended")
	corrupt(t, h, 0, 0, 0, 1)
	corrupt(t, h, 1, 0, 1, 1)
	wantBad(t, h, s, 0, api.ErrBad)
	one := begin(t, 2, 1, 2, 2)
	corrupt(t, one, 1, 0, 2, 77)
	wantBad(t, one, api.Shape{Data: 2, Parity: 1, Rows: 2, Room: 2}, 0, api.ErrBad)
}

// TestCorruptOneByte: of each cell each byte, and nothing else is changed; the same once more, and it is good again.
func TestCorruptOneByte(t *testing.T) {
	for _, s := range every() {
		if s.Room%4 != 1 {
			continue
		}
		h := filled(t, s)
		before := look(t, h, s)
		for i := range (s.Data + s.Parity) * s.Rows * 4 {
			d, row, at, by := i/4/s.Rows, i/4%s.Rows, i%4, byte(i*37+1)
			want := look(t, h, s)
			want.Cells[d][row][at] ^= by
			if d < s.Data {
				want.Bytes[(row*s.Data+d)*4+at] ^= by
			}
			corrupt(t, h, d, row, at, by)
			wantState(t, h, s, want, "P12: one byte went bad")
			corrupt(t, h, d, row, at, by)
			wantState(t, h, s, before, "P12: it is good again")
			wantScrub(t, h, row, -1)
		}
		wantState(t, h, s, before, "P13: Scrubs of what is good")
	}
}

// TestCorruptByEachNumber: what is added is a number of the field, and the sum of two is their exclusive or.
func TestCorruptByEachNumber(t *testing.T) {
	s := api.Shape{Data: 3, Parity: 2, Rows: 1, Room: 2}
	h := filled(t, s)
	before := look(t, h, s)
	for d := range 5 {
		for by := range 256 {
			corrupt(t, h, d, 0, 3, byte(by))
			want := before.Cells[d][0]
			want[3] ^= byte(by)
			wantCell(t, h, d, 0, want)
			if by == 0 {
				wantScrub(t, h, 0, -1)
			} else {
				wantScrub(t, h, 0, d)
			}
			wantState(t, h, s, before, "P13: the cell was mended")
		}
	}
}

// TestCorruptRefused: at all numbers, and in the order in which the errors are named, whether a byte would change or not.
func TestCorruptRefused(t *testing.T) {
	for _, s := range every() {
		if s.Room != 3 {
			continue
		}
		for lost := range s.Data + s.Parity {
			blank := (lost + 1) % (s.Data + s.Parity)
			h := filled(t, s)
			fail(t, h, lost, blank)
			replace(t, h, blank)
			before := look(t, h, s)
			for _, d := range edges {
				for _, row := range edges {
					for _, at := range edges {
						want := api.ErrState
						switch {
						case d < 0 || d >= s.Data+s.Parity:
							want = api.ErrDrive
						case row < 0 || row >= s.Rows || at < 0 || at >= 4:
							want = api.ErrArg
						case d != lost && d != blank:
							continue
						}
						e, f := h.Corrupt(d, row, at, 1), h.Corrupt(d, row, at, 0)
						if e != want || f != want {
							t.Fatalf("P12: shape %+v, lost %d, blank %d: Corrupt(%d, %d, %d) = %d, %d, want %d", s, lost, blank, d, row, at, e, f, want)
						}
					}
				}
			}
			wantState(t, h, s, before, "P1: refused Corrupts")
		}
	}
}

// TestCorruptOfBuiltCellsAlone: of a drive that is built in part the cells that are built can go bad.
func TestCorruptOfBuiltCellsAlone(t *testing.T) {
	for d := range 4 {
		h := begin(t, 2, 2, 3, 2)
		fail(t, h, d)
		replace(t, h, d)
		wantRebuild(t, h, d, 2, 2)
		corrupt(t, h, d, 1, 0, 9)
		wantCell(t, h, d, 1, api.Cell{9})
		if e := h.Corrupt(d, 2, 0, 9); e != api.ErrState {
			t.Errorf("P12: Corrupt(%d, 2, 0, 9) = %d, but the cell is not built", d, e)
		}
		wantRebuild(t, h, d, 1, 1)
		wantCell(t, h, d, 2, api.Cell{})
		wantScrub(t, h, 1, d)
		wantScrub(t, h, 2, -1)
	}
}

// TestScrubEachDrive: each choice of bytes of each cell, with records in the logs and without.
func TestScrubEachDrive(t *testing.T) {
	for _, s := range every() {
		if s.Room%7 != 1 || s.Parity == 1 {
			continue
		}
		for merged := range 2 {
			h := filled(t, s)
			if merged == 1 {
				mergeAll(t, h, s)
			}
			before := look(t, h, s)
			for i := range (s.Data + 2) * s.Rows * 15 {
				d, row, choice := i/15/s.Rows, i/15%s.Rows, i%15+1
				for at := range 4 {
					corrupt(t, h, d, row, at, byte(choice>>at&1*(i*29+at*51+i/256+1)))
				}
				for other := range s.Rows {
					if other != row {
						wantScrub(t, h, other, -1)
					}
				}
				if bad := look(t, h, s).Cells[d][row]; bad == before.Cells[d][row] {
					wantScrub(t, h, row, -1)
				} else {
					wantScrub(t, h, row, d)
				}
				wantState(t, h, s, before, "P13: the cell was mended")
				wantScrub(t, h, row, -1)
			}
		}
	}
}

// TestScrubWithOneParity: each drive could be the bad one, so none is mended.
func TestScrubWithOneParity(t *testing.T) {
	for _, s := range every() {
		if s.Room%7 != 1 || s.Parity == 2 {
			continue
		}
		h := filled(t, s)
		before := look(t, h, s)
		for d := range s.Data + 1 {
			for row := range s.Rows {
				corrupt(t, h, d, row, row%4, 128)
				wantBad(t, h, s, row, api.ErrBad)
				corrupt(t, h, (d+1)%(s.Data+1), row, row%4, 128)
				wantScrub(t, h, row, -1) // Both are off by the same, and the equation holds.
				corrupt(t, h, (d+1)%(s.Data+1), row, (row+1)%4, 1)
				wantBad(t, h, s, row, api.ErrBad)
				corrupt(t, h, (d+1)%(s.Data+1), row, (row+1)%4, 1)
				corrupt(t, h, (d+1)%(s.Data+1), row, row%4, 128)
				corrupt(t, h, d, row, row%4, 128)
				wantScrub(t, h, row, -1)
			}
		}
		wantState(t, h, s, before, "P13: with one parity drive nothing is mended")
	}
}

// TestScrubOfTwoBadBytes: of two drives, at two places of their cells.
func TestScrubOfTwoBadBytes(t *testing.T) {
	for data := 1; data <= 4; data++ {
		s := api.Shape{Data: data, Parity: 2, Rows: 2, Room: 2}
		for d := range data + 2 {
			for e := range data + 2 {
				h := filled(t, s)
				before := look(t, h, s)
				corrupt(t, h, d, 1, 0, 5)
				corrupt(t, h, e, 1, 3, 6)
				if d == e {
					wantScrub(t, h, 1, d)
					wantState(t, h, s, before, "P13: the cell was mended")
					continue
				}
				wantBad(t, h, s, 1, api.ErrBad)
				wantScrub(t, h, 0, -1)
				corrupt(t, h, d, 1, 0, 5)
				wantScrub(t, h, 1, e)
				wantState(t, h, s, before, "P13: one is good again, the other was mended")
			}
		}
	}
}

// TestScrubOfTwoBadDrives: at one place, by all numbers; now and then a third drive, or one of the two, explains it.
func TestScrubOfTwoBadDrives(t *testing.T) {
	s := api.Shape{Data: 4, Parity: 2, Rows: 1, Room: 3}
	h, m := laid(t, s, 0)
	for d := range 6 {
		for e := range d {
			for by := 1; by < 256; by++ {
				x := byte(by*7 + d)
				for _, c := range []struct {
					d  int
					by byte
				}{{d, byte(by)}, {e, x}} {
					corrupt(t, h, c.d, 0, 1, c.by)
					m.corrupt(c.d, 0, 1, c.by)
				}
				k, f := h.Scrub(0)
				l, g := m.scrub(0)
				if k != l || f != g {
					t.Fatalf("P13: drives %d, %d bad by %d, %d: Scrub(0) = %d, %d, want %d, %d", d, e, by, x, k, f, l, g)
				}
				wantState(t, h, s, m.look(), "P13: two bad drives")
			}
		}
	}
}

// TestScrubMendsWhatExplains: the drive that explains it, though others went bad.
func TestScrubMendsWhatExplains(t *testing.T) {
	for c := range 4 {
		h := begin(t, 4, 2, 1, 8)
		write(t, h, 0, 1, 2, 3, 4, 5, 6, 7, 8, 9, 10, 11, 12, 13, 14, 15, 16)
		p, _ := h.Cell(4, 0)
		q, _ := h.Cell(5, 0)
		cell, _ := h.Cell(c, 0)
		times := byte(1) << c
		// The first equation holds again, so the second parity drive explains it.
		corrupt(t, h, c, 0, 0, 3)
		corrupt(t, h, 4, 0, 0, 3)
		wantScrub(t, h, 0, 5)
		q[0] ^= 3 * times
		p[0] ^= 3
		cell[0] ^= 3
		wantCell(t, h, c, 0, cell)
		wantCell(t, h, 4, 0, p)
		wantCell(t, h, 5, 0, q)
		// The second one holds again.
		corrupt(t, h, c, 0, 2, 1)
		corrupt(t, h, 5, 0, 2, times)
		wantScrub(t, h, 0, 4)
		q[2] ^= times
		p[2] ^= 1
		cell[2] ^= 1
		wantCell(t, h, c, 0, cell)
		wantCell(t, h, 4, 0, p)
		wantCell(t, h, 5, 0, q)
		// Both are off as they would be by the data drive.
		corrupt(t, h, 4, 0, 1, 1)
		corrupt(t, h, 4, 0, 3, 2)
		corrupt(t, h, 5, 0, 1, times)
		corrupt(t, h, 5, 0, 3, 2*times)
		wantScrub(t, h, 0, c)
		cell[1] ^= 1
		cell[3] ^= 2
		wantCell(t, h, c, 0, cell)
		wantScrub(t, h, 0, -1)
		if x, _ := h.Drive(4); x.Records != 4 {
			t.Errorf("P13: the log of drive 4 has %d records", x.Records)
		}
	}
}

// TestScrubByteByByte: a drive explains it only if it does so for all bytes of the cell.
func TestScrubByteByByte(t *testing.T) {
	s := api.Shape{Data: 3, Parity: 2, Rows: 1, Room: 2}
	for first := range 4 {
		for last := range 4 {
			if first == last {
				continue
			}
			h := filled(t, s)
			corrupt(t, h, 3, 0, first, 7) // Off as by drive 1 here,
			corrupt(t, h, 4, 0, first, 14)
			corrupt(t, h, 3, 0, last, 7) // and as by drive 2 there.
			corrupt(t, h, 4, 0, last, 28)
			wantBad(t, h, s, 0, api.ErrBad)
			corrupt(t, h, 4, 0, last, 28^14)
			wantScrub(t, h, 0, 1)
		}
	}
}

// TestScrubCountsRecords: those of the row, and of no other; the mended cell is without them.
func TestScrubCountsRecords(t *testing.T) {
	for d := range 4 {
		h := begin(t, 2, 2, 2, 8)
		write(t, h, 0, 1, 2, 3, 4, 5, 6, 7, 8, 9, 10, 11, 12)
		write(t, h, 0, 21, 22, 23, 24)
		for n := range 5 {
			wantScrub(t, h, 0, -1)
			wantScrub(t, h, 1, -1)
			before, _ := h.Cell(d, 0)
			corrupt(t, h, d, 0, 0, 99)
			corrupt(t, h, d, 0, 3, 98)
			wantScrub(t, h, 1, -1)
			wantScrub(t, h, 0, d)
			wantCell(t, h, d, 0, before)
			wantDrive(t, h, 2, api.Drive{Records: 4 - n})
			wantDrive(t, h, 3, api.Drive{Records: min(4, 5-n)})
			if n < 4 {
				wantMerge(t, h, 2, 1, 1)
			}
			if n > 0 {
				wantMerge(t, h, 3, 1, 1)
			}
		}
		wantLog(t, h, 2)
		wantLog(t, h, 3)
		wantRead(t, h, 0, 21, 22, 23, 24, 5, 6, 7, 8, 9, 10, 11, 12)
	}
}

// TestScrubRefused: no such row comes ahead of a cell that is lost or not built, and that ahead of bad bytes.
func TestScrubRefused(t *testing.T) {
	for _, s := range every() {
		if s.Room != 3 {
			continue
		}
		for d := range s.Data + s.Parity {
			h := filled(t, s)
			for stage := range 3 {
				before := look(t, h, s)
				for _, row := range edges {
					want := api.ErrState
					switch {
					case row < 0 || row >= s.Rows:
						want = api.ErrArg
					case stage == 0:
						continue
					}
					if k, e := h.Scrub(row); k != 0 || e != want {
						t.Fatalf("P13: shape %+v: Scrub(%d) = %d, %d, want %d", s, row, k, e, want)
					}
				}
				wantState(t, h, s, before, "P1: refused Scrubs")
				if stage == 0 {
					corrupt(t, h, (d+1)%(s.Data+s.Parity), 0, 0, 1) // Row 0 is bad from here on.
					fail(t, h, d)
				}
				if stage == 1 {
					replace(t, h, d)
				}
			}
		}
	}
}

// TestScrubRowByRow: a cell that is not built is in the way of its own row alone.
func TestScrubRowByRow(t *testing.T) {
	s := api.Shape{Data: 3, Parity: 2, Rows: 4, Room: 2}
	for d := range 5 {
		h := filled(t, s)
		fail(t, h, d)
		replace(t, h, d)
		for row := range 4 {
			wantBad(t, h, s, row, api.ErrState)
			wantRebuild(t, h, d, 1, 1)
			before := look(t, h, s)
			wantScrub(t, h, row, -1)
			corrupt(t, h, (d+row)%5, row, 0, 1)
			wantScrub(t, h, row, (d+row)%5)
			wantState(t, h, s, before, "P13: the cell was mended")
		}
	}
}

// TestScrubOfARowWithSeveralMissing: gone data cells, or all parity cells, are ErrState too.
func TestScrubOfARowWithSeveralMissing(t *testing.T) {
	s := api.Shape{Data: 2, Parity: 2, Rows: 2, Room: 2}
	for choice := 1; choice < 1<<8; choice++ {
		h, m := laid(t, s, choice)
		for row := range 2 {
			want := api.ErrState
			if choice&0x55 == 0 {
				want = api.OK
			}
			if k, e := h.Scrub(row); e != want || (k == -1) != (want == api.OK) {
				t.Fatalf("P13: choice %b: Scrub(%d) = %d, %d, want %d", choice, row, k, e, want)
			}
		}
		wantState(t, h, s, m.look(), "P1: refused Scrubs")
	}
}

// TestNoStepsOfBadBytes: neither Corrupt nor Scrub does a step, nor is a Break used up or lost by them.
func TestNoStepsOfBadBytes(t *testing.T) {
	h := begin(t, 2, 2, 2, 2)
	write(t, h, 0, 1, 2, 3, 4)
	breakOff(t, h, 3)
	for d := range 4 {
		corrupt(t, h, d, 0, 0, 50)
		wantScrub(t, h, 0, d)
		wantScrub(t, h, 0, -1)
	}
	wantSteps(t, h, 5)
	goDown(t, h, 4, 9)
	mount(t, h)
	wantSteps(t, h, 8)
	wantScrub(t, h, 0, -1)
	wantRead(t, h, 0, 1, 2, 3, 4, 9, 0, 0, 0)
}

// TestHoardsGoBadAlone: neither a bad byte nor a Scrub of one hoard is one of another.
func TestHoardsGoBadAlone(t *testing.T) {
	s := api.Shape{Data: 2, Parity: 2, Rows: 2, Room: 2}
	a, b := filled(t, s), filled(t, s)
	before := look(t, b, s)
	for d := range 4 {
		corrupt(t, a, d, 1, 2, 3)
		wantState(t, b, s, before, "P2: another hoard went bad")
		wantScrub(t, b, 1, -1)
		corrupt(t, b, d, 1, 2, 7)
		wantScrub(t, a, 1, d)
		wantCell(t, a, d, 1, before.Cells[d][1])
		bad := before.Cells[d][1]
		bad[2] ^= 7
		wantCell(t, b, d, 1, bad)
		wantScrub(t, b, 1, d)
		wantState(t, b, s, before, "P13: the cell was mended")
	}
}

// TestReadOfBadBytes: as the cell holds them; and what a lost drive held is found with them.
func TestReadOfBadBytes(t *testing.T) {
	h := begin(t, 3, 2, 1, 2)
	write(t, h, 0, 1, 2, 3, 4, 5, 6, 7, 8, 9, 10, 11, 12)
	corrupt(t, h, 1, 0, 1, 64)
	wantRead(t, h, 0, 1, 2, 3, 4, 5, 6^64, 7, 8, 9, 10, 11, 12)
	fail(t, h, 2)
	wantRead(t, h, 8, 9, 10^64, 11, 12)
	fail(t, h, 3)
	wantRead(t, h, 8, 9, 10^32, 11, 12)
	fail(t, h, 1)
	wantGone(t, h, 4, 4)
	wantGone(t, h, 8, 4)
}

// TestFirstParityIsAsked: for one missing data cell the first available parity drive alone, for two both.
func TestFirstParityIsAsked(t *testing.T) {
	for c := range 3 {
		h := begin(t, 3, 2, 1, 2)
		write(t, h, 0, 1, 2, 3, 4, 1, 2, 3, 4, 1, 2, 3, 4)
		corrupt(t, h, 4, 0, 2, 64)
		fail(t, h, c)
		wantRead(t, h, 0, 1, 2, 3, 4, 1, 2, 3, 4, 1, 2, 3, 4)
		corrupt(t, h, 3, 0, 1, 9)
		wantRead(t, h, c*4, 1, 2^9, 3, 4)
		fail(t, h, 3)
		wantRead(t, h, c*4, 1, 2, 3^64>>c, 4)
		replace(t, h, 3)
		wantRead(t, h, c*4, 1, 2, 3^64>>c, 4)
		wantRebuild(t, h, 3, 1, 1)
		wantRead(t, h, c*4, 1, 2, 3^64>>c, 4)
		replace(t, h, c)
		wantRebuild(t, h, c, 1, 1)
		wantCell(t, h, c, 0, api.Cell{1, 2, 3 ^ 64>>c, 4})
		wantScrub(t, h, 0, -1)
	}
	h := begin(t, 2, 2, 1, 2)
	write(t, h, 0, 1, 2, 3, 4, 5, 6, 7, 8)
	corrupt(t, h, 3, 0, 0, 3) // a + b is right, a + 2b is off by 3: both are off by 1.
	fail(t, h, 0)
	wantRead(t, h, 0, 1, 2, 3, 4, 5, 6, 7, 8)
	fail(t, h, 1)
	wantRead(t, h, 0, 0, 2, 3, 4, 4, 6, 7, 8)
}

// TestEachLossOfBadBytes: each choice of lost and blank drives, and each cell that is bad, before the loss and after it.
func TestEachLossOfBadBytes(t *testing.T) {
	for _, s := range every() {
		if s.Rows > 1 || s.Room != 3 {
			continue
		}
		for choice := range 1 << (2 * (s.Data + s.Parity)) {
			h, m := laid(t, s, choice)
			for d := range s.Data + s.Parity {
				e, f := h.Corrupt(d, 0, d%4, byte(d*3+1)), m.corrupt(d, 0, d%4, byte(d*3+1))
				if e != f {
					t.Fatalf("P12: shape %+v, choice %b: Corrupt(%d, 0, ...) = %d, want %d", s, choice, d, e, f)
				}
				wantState(t, h, s, m.look(), "P5, P12: bad bytes with lost drives")
			}
			for d := range s.Data + s.Parity {
				if h.Fail(d) != m.fail(d) || h.Replace(d) != m.replace(d) {
					t.Fatalf("P8: shape %+v, choice %b: drive %d", s, choice, d)
				}
				wantState(t, h, s, m.look(), "P5, P8: lost drives with bad bytes")
				k, e := h.Rebuild(d, 1)
				l, f := m.rebuild(d, 1)
				if k != l || e != f {
					t.Fatalf("P9: shape %+v, choice %b: Rebuild(%d, 1) = %d, %d, want %d, %d", s, choice, d, k, e, l, f)
				}
				wantState(t, h, s, m.look(), "P9: rebuilt from bad bytes")
			}
		}
	}
}

// TestWriteOverBadBytes: old is what the bad cell holds, so the equations stay off by what they were.
func TestWriteOverBadBytes(t *testing.T) {
	h := begin(t, 2, 2, 1, 4)
	write(t, h, 0, 1, 2, 3, 4, 5, 6, 7, 8)
	corrupt(t, h, 1, 0, 0, 16)
	write(t, h, 4, 21, 6, 7, 8)
	wantSteps(t, h, 10) // That is what it holds.
	write(t, h, 4, 5, 6, 70)
	wantSteps(t, h, 15)
	wantCell(t, h, 1, 0, api.Cell{5, 6, 70, 8})
	wantLog(t, h, 2, record(0, 1, 2, 3, 4), record(0, 5, 6, 7, 8), record(0, 16, 0, 65, 0))
	wantLog(t, h, 3, record(0, 1, 2, 3, 4), record(0, 10, 12, 14, 16), record(0, 32, 0, 130, 0))
	wantRead(t, h, 0, 1, 2, 3, 4, 5, 6, 70, 8)
	fail(t, h, 0)
	wantRead(t, h, 0, 17, 2, 3, 4)
	replace(t, h, 0)
	wantRebuild(t, h, 0, 1, 1)
	wantCell(t, h, 0, 0, api.Cell{17, 2, 3, 4})
	wantScrub(t, h, 0, 3)
	wantRead(t, h, 0, 17, 2, 3, 4, 5, 6, 70, 8)
}

// TestScrubAfterAWriteOverBadBytes: the byte that went bad is told by the equations still, though another was written there.
func TestScrubAfterAWriteOverBadBytes(t *testing.T) {
	h := begin(t, 2, 2, 1, 1)
	corrupt(t, h, 0, 0, 1, 16)
	write(t, h, 1, 99)
	wantRead(t, h, 0, 0, 99, 0, 0)
	wantScrub(t, h, 0, 0)
	wantRead(t, h, 0, 0, 99^16, 0, 0)
	wantScrub(t, h, 0, -1)
}

// TestMergeOfBadBytes: the records are added to the bad cell, which stays as bad as it was.
func TestMergeOfBadBytes(t *testing.T) {
	h := begin(t, 2, 2, 1, 2)
	write(t, h, 0, 1, 2, 3, 4)
	corrupt(t, h, 2, 0, 0, 16)
	wantCell(t, h, 2, 0, api.Cell{16})
	wantMerge(t, h, 2, 1, 1)
	wantCell(t, h, 2, 0, api.Cell{17, 2, 3, 4})
	wantScrub(t, h, 0, 2)
	wantCell(t, h, 2, 0, api.Cell{1, 2, 3, 4})
}

// TestRebuildFromBadBytes: a parity cell gets what its equation asks of the bad bytes, a data cell what it holds by them.
func TestRebuildFromBadBytes(t *testing.T) {
	h := begin(t, 2, 2, 1, 4)
	write(t, h, 0, 1, 2, 3, 4, 5, 6, 7, 8)
	corrupt(t, h, 1, 0, 0, 16)
	fail(t, h, 3)
	replace(t, h, 3)
	wantRebuild(t, h, 3, 1, 1)
	wantCell(t, h, 3, 0, api.Cell{1 ^ 10 ^ 32, 2 ^ 12, 3 ^ 14, 4 ^ 16})
	wantScrub(t, h, 0, 2) // Only the first equation is off now.
	wantCell(t, h, 2, 0, api.Cell{16})
	corrupt(t, h, 2, 0, 3, 32)
	fail(t, h, 0)
	replace(t, h, 0)
	wantRebuild(t, h, 0, 1, 1)
	wantCell(t, h, 0, 0, api.Cell{1, 2, 3, 4 ^ 32})
	wantScrub(t, h, 0, 3)
}

// TestMountOverBadBytes: the steps that are left are those that the Write would have done, by what the bad cell held.
func TestMountOverBadBytes(t *testing.T) {
	s := api.Shape{Data: 2, Parity: 2, Rows: 1, Room: 1}
	for n := 1; n < 5; n++ {
		var all [2]*hoard.Hoard
		for i := range all {
			all[i] = filled(t, s)
			corrupt(t, all[i], 1, 0, 2, 30)
			corrupt(t, all[i], 2, 0, 1, 31)
			corrupt(t, all[i], 3, 0, 0, 32)
		}
		write(t, all[0], 5, 100, 101)
		breakOff(t, all[1], n)
		goDown(t, all[1], 5, 100, 101)
		mount(t, all[1])
		want := look(t, all[0], s)
		want.Steps -= 5 - n
		wantState(t, all[1], s, want, "P11: Mount over bad bytes")
		wantBad(t, all[1], s, 0, api.ErrBad)
	}
}

// TestDownWithBadBytes: with each choice of lost and blank drives, at each step of a Write over bad bytes.
func TestDownWithBadBytes(t *testing.T) {
	s := api.Shape{Data: 3, Parity: 2, Rows: 1, Room: 2}
	for choice := range 1 << 10 {
		for b := range 3 {
			for n := range 6 {
				h, m := laid(t, s, choice)
				for d := range 5 {
					if h.Corrupt(d, 0, d%4, byte(d+40)) != m.corrupt(d, 0, d%4, byte(d+40)) {
						t.Fatalf("P12: choice %b: Corrupt(%d, 0, ...)", choice, d)
					}
				}
				breakOff(t, h, n)
				m.breakOff(n)
				data := []byte{100, 101}
				e, f := h.Write(b*4+1, data), m.write(b*4+1, data)
				if e != f {
					t.Fatalf("P6, P10: choice %b: Break(%d), Write(%d, ...) = %d, want %d", choice, n, b*4+1, e, f)
				}
				if e == api.ErrDown {
					mount(t, h)
					m.mount()
				}
				wantState(t, h, s, m.look(), "P6, P11: a Write over bad bytes")
			}
		}
	}
}
