package hoard_test

import (
	"slices"
	"testing"

	"hoard/api"
	"hoard/hoard"
)

func TestFieldExamples(t *testing.T) {
	for _, c := range [][3]uint8{{2, 128, 29}, {3, 7, 9}, {0, 5, 0}, {5, 0, 0}, {1, 255, 255}} {
		if p := hoard.Mul(c[0], c[1]); p != c[2] {
			t.Errorf("P3: Mul(%d, %d) = %d, want %d", c[0], c[1], p, c[2])
		}
	}
	for _, c := range [][3]uint8{{29, 2, 128}, {1, 2, 142}, {0, 7, 0}, {7, 7, 1}, {255, 1, 255}} {
		if q, e := hoard.Div(c[0], c[1]); q != c[2] || e != api.OK {
			t.Errorf("P3: Div(%d, %d) = %d, %d, want %d", c[0], c[1], q, e, c[2])
		}
	}
}

// TestField: doubling, one, and that a product is taken apart by its sums leave one product only.
func TestField(t *testing.T) {
	for a := range 256 {
		x := uint8(a)
		double := a << 1
		if double > 255 {
			double ^= 285
		}
		if hoard.Mul(x, 1) != x || int(hoard.Mul(x, 2)) != double {
			t.Fatalf("P3: Mul(%d, 1) = %d, Mul(%d, 2) = %d", a, hoard.Mul(x, 1), a, hoard.Mul(x, 2))
		}
		for b := range 256 {
			y := uint8(b)
			p := hoard.Mul(x, y)
			if b > 1 && p != hoard.Mul(x, y&1)^hoard.Mul(hoard.Mul(x, y>>1), 2) {
				t.Fatalf("P3: Mul(%d, %d) = %d", a, b, p)
			}
			if q, e := hoard.Div(p, y); b > 0 && (q != x || e != api.OK) {
				t.Fatalf("P3: Div(%d, %d) = %d, %d, want %d", p, b, q, e, a)
			}
		}
	}
}

func TestNewHoardIsBlank(t *testing.T) {
	for _, s := range every() {
		h := begin(t, s.Data, s.Parity, s.Rows, s.Room)
		x := look(t, h, s)
		if !slices.Equal(x.Bytes, make([]byte, size(s))) || slices.Contains(x.Gone, true) || x.Steps != 0 {
			t.Fatalf("P4: shape %+v: %+v", s, x)
		}
		for d := range s.Data + s.Parity {
			if x.Drives[d] != (api.Drive{}) || !slices.Equal(x.Cells[d], make([]api.Cell, s.Rows)) || slices.Contains(x.Available[d], false) {
				t.Fatalf("P4: shape %+v: drive %d: %+v", s, d, x)
			}
		}
		for _, l := range x.Logs {
			if len(l) != 0 {
				t.Fatalf("P4: shape %+v: log %v", s, l)
			}
		}
	}
}

func TestExample(t *testing.T) {
	h := begin(t, 2, 2, 2, 2)
	for range 2 {
		write(t, h, 2, 1, 1, 1, 1)
		wantSteps(t, h, 10)
		wantLog(t, h, 2, record(0, 0, 0, 1, 1), record(0, 1, 1, 0, 0))
		wantLog(t, h, 3, record(0, 0, 0, 1, 1), record(0, 2, 2, 0, 0))
		wantCell(t, h, 0, 0, api.Cell{0, 0, 1, 1})
		wantCell(t, h, 1, 0, api.Cell{1, 1, 0, 0})
		wantCell(t, h, 2, 0, api.Cell{})
		wantCell(t, h, 3, 0, api.Cell{})
	}
	write(t, h, 8, 5)
	wantSteps(t, h, 15)
	wantCell(t, h, 0, 1, api.Cell{5, 0, 0, 0})
	wantLog(t, h, 2, record(0, 1, 1, 0, 0), record(1, 5, 0, 0, 0))
	wantLog(t, h, 3, record(0, 2, 2, 0, 0), record(1, 5, 0, 0, 0))
	wantCell(t, h, 2, 0, api.Cell{0, 0, 1, 1})
	wantCell(t, h, 3, 0, api.Cell{0, 0, 1, 1})
	wantMerge(t, h, 2, 9, 2)
	wantCell(t, h, 2, 0, api.Cell{1, 1, 1, 1})
	wantCell(t, h, 2, 1, api.Cell{5, 0, 0, 0})
	wantLog(t, h, 2)
	wantRead(t, h, 0, 0, 0, 1, 1, 1, 1, 0, 0, 5, 0, 0, 0, 0, 0, 0, 0)
	wantSteps(t, h, 15)
}

// TestPlaces: each byte lies on the drive and in the row that the document tells.
func TestPlaces(t *testing.T) {
	for _, s := range every() {
		h := begin(t, s.Data, s.Parity, s.Rows, s.Room)
		for at := range size(s) {
			write(t, h, at, byte(at+1))
			wantRead(t, h, at, byte(at+1))
			b := at / 4
			c, e := h.Cell(b%s.Data, b/s.Data)
			if e != api.OK || c[at%4] != byte(at+1) {
				t.Fatalf("P5, P7: shape %+v: byte %d: Cell(%d, %d) = %v, %d", s, at, b%s.Data, b/s.Data, c, e)
			}
		}
	}
}

func TestReadOfEachStretch(t *testing.T) {
	s := api.Shape{Data: 3, Parity: 1, Rows: 2, Room: 1}
	h := filled(t, s)
	all := look(t, h, s).Bytes
	for from := range size(s) + 1 {
		for end := from; end <= size(s); end++ {
			wantRead(t, h, from, all[from:end]...)
		}
	}
}

func TestWriteLeavesTheBytesBeside(t *testing.T) {
	s := api.Shape{Data: 3, Parity: 1, Rows: 2, Room: 1}
	for from := range size(s) + 1 {
		for end := from; end <= size(s); end++ {
			h := filled(t, s)
			want := look(t, h, s).Bytes
			l := make([]byte, end-from)
			for i := range l {
				l[i] = 200 + byte(i)
			}
			copy(want[from:], l)
			write(t, h, from, l...)
			wantRead(t, h, 0, want...)
		}
	}
}

// TestUnchangedBlocks: in the midst of a Write a block that stays the same is passed over.
func TestUnchangedBlocks(t *testing.T) {
	h := begin(t, 2, 1, 2, 8)
	write(t, h, 4, 1, 2, 3, 4)
	wantSteps(t, h, 4)
	write(t, h, 0, 9, 0, 0, 0, 1, 2, 3, 4, 0, 0, 0, 9)
	wantSteps(t, h, 12)
	wantLog(t, h, 2, record(0, 1, 2, 3, 4), record(0, 9, 0, 0, 0), record(1, 0, 0, 0, 9))
}

// TestRecordIsTheChange: not what was there nor what is there now.
func TestRecordIsTheChange(t *testing.T) {
	h := begin(t, 4, 2, 1, 8)
	write(t, h, 12, 1, 2, 3, 64)
	write(t, h, 13, 3, 3, 0)
	wantLog(t, h, 4, record(0, 1, 2, 3, 64), record(0, 0, 1, 0, 64))
	wantLog(t, h, 5, record(0, 8, 16, 24, 58), record(0, 0, 8, 0, 58))
	write(t, h, 12, 0, 0, 0, 0)
	wantLog(t, h, 4, record(0, 1, 2, 3, 64), record(0, 0, 1, 0, 64), record(0, 1, 3, 3, 0))
}

func TestWeights(t *testing.T) {
	h := begin(t, 4, 2, 1, 4)
	write(t, h, 0, 1, 0, 0, 0, 1, 0, 0, 0, 1, 0, 0, 0, 1)
	one := record(0, 1, 0, 0, 0)
	wantLog(t, h, 4, one, one, one, one)
	wantLog(t, h, 5, one, record(0, 2, 0, 0, 0), record(0, 4, 0, 0, 0), record(0, 8, 0, 0, 0))
	wantSteps(t, h, 20)
}

// TestFullLog: of each room, one record more than the log has room for merges the oldest one alone.
func TestFullLog(t *testing.T) {
	for room := 1; room <= 8; room++ {
		h := begin(t, 1, 2, 6, room)
		var want []api.Record
		for i := range room {
			write(t, h, i%6*4, byte(i+1))
			l, _ := h.Log(1)
			want = append(want, l[len(l)-1])
		}
		wantLog(t, h, 1, want...)
		wantCell(t, h, 1, 0, api.Cell{})
		write(t, h, 20, 99)
		change, _ := h.Cell(0, 5)
		if room >= 6 {
			change[0] ^= 6
		}
		wantLog(t, h, 1, append(slices.Clone(want[1:]), api.Record{Row: 5, Bytes: change})...)
		wantCell(t, h, 1, 0, api.Cell{1})
		wantCell(t, h, 2, 0, api.Cell{1})
		wantCell(t, h, 1, 5, api.Cell{})
	}
}

func TestMergeOfSome(t *testing.T) {
	h := begin(t, 2, 2, 2, 4)
	wantMerge(t, h, 2, 1, 0)
	write(t, h, 0, 1)
	write(t, h, 8, 2)
	write(t, h, 4, 3)
	wantMerge(t, h, 3, 2, 2)
	wantLog(t, h, 3, record(0, 6, 0, 0, 0))
	wantCell(t, h, 3, 0, api.Cell{1})
	wantCell(t, h, 3, 1, api.Cell{2})
	wantLog(t, h, 2, record(0, 1, 0, 0, 0), record(1, 2, 0, 0, 0), record(0, 3, 0, 0, 0))
	wantCell(t, h, 2, 0, api.Cell{})
	wantMerge(t, h, 2, 3, 3)
	wantMerge(t, h, 2, 3, 0)
	wantMerge(t, h, 3, 1<<63-1, 1)
	wantCell(t, h, 2, 0, api.Cell{2})
	wantCell(t, h, 3, 0, api.Cell{7})
	wantSteps(t, h, 15)
	wantRead(t, h, 0, 1, 0, 0, 0, 3, 0, 0, 0, 2)
}
