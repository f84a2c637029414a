package hoard_test

import (
	"math"
	"testing"

	"hoard/api"
	"hoard/hoard"
)

// filled gives a hoard of which each block was written, with records in its logs and in its parity cells.
func filled(t *testing.T, s api.Shape) *hoard.Hoard {
	t.Helper()
	h := begin(t, s.Data, s.Parity, s.Rows, s.Room)
	l := make([]byte, size(s))
	for i := range l {
		l[i] = byte(i*7 + 1)
	}
	write(t, h, 0, l...)
	return h
}

// beyond tells whether from plus n is above all, where the sum may be greater than an int.
func beyond(from, n, all int) bool {
	return from > all || n > all || from+n > all
}

func TestReadAndWriteRefused(t *testing.T) {
	for _, s := range every() {
		h := filled(t, s)
		before := look(t, h, s)
		for _, from := range edges {
			for _, n := range edges {
				l, e := h.Read(from, n)
				refused := from < 0 || n < 0 || beyond(from, n, size(s))
				if refused && (l != nil || e != api.ErrRange) || !refused && (len(l) != n || e != api.OK) {
					t.Fatalf("P1, P5: shape %+v: Read(%d, %d) = %v, %d", s, from, n, l, e)
				}
				if n < 0 || n > 100 || from >= 0 && !beyond(from, n, size(s)) {
					continue
				}
				if e := h.Write(from, make([]byte, n)); e != api.ErrRange {
					t.Fatalf("P1, P6: shape %+v: Write(%d, %d bytes) = %d", s, from, n, e)
				}
			}
		}
		wantState(t, h, s, before, "P1: refused Reads and Writes")
	}
}

func TestEmptyLists(t *testing.T) {
	s := api.Shape{Data: 2, Parity: 2, Rows: 2, Room: 2}
	h := filled(t, s)
	before := look(t, h, s)
	for from := range size(s) + 1 {
		wantRead(t, h, from)
		if e := h.Write(from, nil); e != api.OK {
			t.Errorf("P6: Write(%d, nil) = %d", from, e)
		}
		write(t, h, from, []byte{}...)
	}
	if e := h.Write(size(s)+1, nil); e != api.ErrRange {
		t.Errorf("P6: Write of nothing behind the end = %d", e)
	}
	wantState(t, h, s, before, "P6: Writes of nothing")
}

func TestDriveAndCellRefused(t *testing.T) {
	for _, s := range every() {
		h := filled(t, s)
		before := look(t, h, s)
		for _, d := range edges {
			there := d >= 0 && d < s.Data+s.Parity
			x, e := h.Drive(d)
			if !there && (x != (api.Drive{}) || e != api.ErrDrive) || there && e != api.OK {
				t.Fatalf("P1, P4: shape %+v: Drive(%d) = %+v, %d", s, d, x, e)
			}
			for _, row := range edges {
				want := api.OK
				if row < 0 || row >= s.Rows {
					want = api.ErrArg
				}
				if !there {
					want = api.ErrDrive
				}
				c, e := h.Cell(d, row)
				if e != want || want != api.OK && c != (api.Cell{}) {
					t.Fatalf("P1, P7: shape %+v: Cell(%d, %d) = %v, %d, want %d", s, d, row, c, e, want)
				}
			}
		}
		wantState(t, h, s, before, "P1: refused Drives and Cells")
	}
}

func TestLogAndMergeRefused(t *testing.T) {
	for _, s := range every() {
		h := filled(t, s)
		before := look(t, h, s)
		for _, d := range edges {
			want := api.ErrDrive
			if d >= s.Data && d < s.Data+s.Parity {
				want = api.ErrArg
			}
			for _, n := range edges {
				if want == api.ErrArg && n > 0 {
					continue
				}
				if k, e := h.Merge(d, n); k != 0 || e != want {
					t.Fatalf("P1, P7: shape %+v: Merge(%d, %d) = %d, %d, want %d", s, d, n, k, e, want)
				}
			}
			l, e := h.Log(d)
			if want == api.ErrDrive && (l != nil || e != want) {
				t.Fatalf("P1, P7: shape %+v: Log(%d) = %v, %d", s, d, l, e)
			}
		}
		wantState(t, h, s, before, "P1: refused Logs and Merges")
	}
}

func TestNewRefused(t *testing.T) {
	wrong := func(n, most int) bool { return n < 1 || n > most }
	numbers := []int{math.MinInt, -1, 0, 1, 2, 3, 4, 5, 6, 7, 8, 9, 1 << 32, math.MaxInt}
	for _, data := range numbers {
		for _, parity := range numbers {
			for _, rows := range numbers {
				for _, room := range numbers {
					s := api.Shape{Data: data, Parity: parity, Rows: rows, Room: room}
					refused := wrong(data, 4) || wrong(parity, 2) || wrong(rows, 6) || wrong(room, 8)
					h, e := hoard.New(s)
					if refused && (h != nil || e != api.ErrShape) || !refused && (h == nil || e != api.OK) {
						t.Fatalf("P1, P4: New(%+v) = %v, %d", s, h, e)
					}
				}
			}
		}
	}
}

func TestDivRefused(t *testing.T) {
	for a := range 256 {
		if q, e := hoard.Div(uint8(a), 0); q != 0 || e != api.ErrArg {
			t.Errorf("P1, P3: Div(%d, 0) = %d, %d", a, q, e)
		}
	}
}
