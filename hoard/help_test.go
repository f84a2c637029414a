package hoard_test

import (
	"math"
	"reflect"
	"slices"
	"testing"

	"hoard/api"
	"hoard/hoard"
)

// edges are numbers at which sums and indices go wrong most easily.
var edges = []int{math.MinInt, math.MinInt + 1, -97, -2, -1, 0, 1, 2, 3, 4, 5, 6, 7, 8, 9, 15, 16, 17, 95, 96, 97, 1 << 32, 1 << 62, math.MaxInt - 1, math.MaxInt}

// every lists all shapes that there may be.
func every() []api.Shape {
	var all []api.Shape
	for data := 1; data <= 4; data++ {
		for parity := 1; parity <= 2; parity++ {
			for rows := 1; rows <= 6; rows++ {
				for room := 1; room <= 8; room++ {
					all = append(all, api.Shape{Data: data, Parity: parity, Rows: rows, Room: room})
				}
			}
		}
	}
	return all
}

func size(s api.Shape) int { return s.Data * s.Rows * 4 }

func begin(t *testing.T, data, parity, rows, room int) *hoard.Hoard {
	t.Helper()
	h, e := hoard.New(api.Shape{Data: data, Parity: parity, Rows: rows, Room: room})
	if h == nil || e != api.OK {
		t.Fatalf("P4: New(%d, %d, %d, %d) = %v, %d", data, parity, rows, room, h, e)
	}
	return h
}

func write(t *testing.T, h *hoard.Hoard, from int, data ...byte) {
	t.Helper()
	if e := h.Write(from, data); e != api.OK {
		t.Fatalf("P6: Write(%d, %v) = %d", from, data, e)
	}
}

func wantRead(t *testing.T, h *hoard.Hoard, from int, want ...byte) {
	t.Helper()
	l, e := h.Read(from, len(want))
	if e != api.OK || !slices.Equal(l, want) {
		t.Errorf("P5: Read(%d, %d) = %v, %d, want %v", from, len(want), l, e, want)
	}
}

func wantCell(t *testing.T, h *hoard.Hoard, d, row int, want api.Cell) {
	t.Helper()
	c, e := h.Cell(d, row)
	if e != api.OK || c != want {
		t.Errorf("P7: Cell(%d, %d) = %v, %d, want %v", d, row, c, e, want)
	}
}

func wantLog(t *testing.T, h *hoard.Hoard, d int, want ...api.Record) {
	t.Helper()
	l, e := h.Log(d)
	if e != api.OK || !slices.Equal(l, want) {
		t.Errorf("P7: Log(%d) = %v, %d, want %v", d, l, e, want)
	}
	x, e := h.Drive(d)
	if e != api.OK || x.Lost || x.Records != len(want) {
		t.Errorf("P4: Drive(%d) = %+v, %d, want %d records", d, x, e, len(want))
	}
}

func wantSteps(t *testing.T, h *hoard.Hoard, want int) {
	t.Helper()
	n, e := h.Steps()
	if e != api.OK || n != want {
		t.Errorf("P4: Steps = %d, %d, want %d", n, e, want)
	}
}

func wantMerge(t *testing.T, h *hoard.Hoard, d, n, want int) {
	t.Helper()
	k, e := h.Merge(d, n)
	if e != api.OK || k != want {
		t.Errorf("P7: Merge(%d, %d) = %d, %d, want %d", d, n, k, e, want)
	}
}

func record(row int, a, b, c, d byte) api.Record {
	return api.Record{Row: row, Bytes: api.Cell{a, b, c, d}}
}

func fail(t *testing.T, h *hoard.Hoard, drives ...int) {
	t.Helper()
	for _, d := range drives {
		if e := h.Fail(d); e != api.OK {
			t.Fatalf("P8: Fail(%d) = %d", d, e)
		}
	}
}

func replace(t *testing.T, h *hoard.Hoard, drives ...int) {
	t.Helper()
	for _, d := range drives {
		if e := h.Replace(d); e != api.OK {
			t.Fatalf("P8: Replace(%d) = %d", d, e)
		}
	}
}

func wantRebuild(t *testing.T, h *hoard.Hoard, d, n, want int) {
	t.Helper()
	k, e := h.Rebuild(d, n)
	if e != api.OK || k != want {
		t.Errorf("P9: Rebuild(%d, %d) = %d, %d, want %d", d, n, k, e, want)
	}
}

func wantDrive(t *testing.T, h *hoard.Hoard, d int, want api.Drive) {
	t.Helper()
	x, e := h.Drive(d)
	if e != api.OK || x != want {
		t.Errorf("P4: Drive(%d) = %+v, %d, want %+v", d, x, e, want)
	}
}

func wantNoCell(t *testing.T, h *hoard.Hoard, d, row int) {
	t.Helper()
	c, e := h.Cell(d, row)
	if e != api.ErrState || c != (api.Cell{}) {
		t.Errorf("P7: Cell(%d, %d) = %v, %d, but it is not available", d, row, c, e)
	}
}

func wantGone(t *testing.T, h *hoard.Hoard, from, n int) {
	t.Helper()
	l, e := h.Read(from, n)
	if e != api.ErrLost || l != nil {
		t.Errorf("P5: Read(%d, %d) = %v, %d, but it is gone", from, n, l, e)
	}
	if e := h.Write(from, make([]byte, n)); e != api.ErrLost {
		t.Errorf("P6: Write(%d, %d bytes) = %d, but it is gone", from, n, e)
	}
}

// wantDown: a Read that may be and one that may not are refused alike.
func wantDown(t *testing.T, h *hoard.Hoard) {
	t.Helper()
	for _, n := range []int{0, -1} {
		if l, e := h.Read(0, n); l != nil || e != api.ErrDown {
			t.Errorf("P1, P10: Read(0, %d) = %v, %d, but the hoard is down", n, l, e)
		}
	}
}

func breakOff(t *testing.T, h *hoard.Hoard, n int) {
	t.Helper()
	if e := h.Break(n); e != api.OK {
		t.Fatalf("P10: Break(%d) = %d", n, e)
	}
}

func mount(t *testing.T, h *hoard.Hoard) {
	t.Helper()
	if e := h.Mount(); e != api.OK {
		t.Fatalf("P11: Mount = %d", e)
	}
}

// goDown writes, and the hoard must go down by that.
func goDown(t *testing.T, h *hoard.Hoard, from int, data ...byte) {
	t.Helper()
	if e := h.Write(from, data); e != api.ErrDown {
		t.Fatalf("P10: Write(%d, %v) = %d, but the hoard goes down", from, data, e)
	}
	wantDown(t, h)
}

// state is all that can be seen of a hoard; what is gone or not available is nought.
type state struct {
	Bytes     []byte
	Gone      []bool // of each block
	Steps     int
	Drives    []api.Drive
	Cells     [][]api.Cell
	Available [][]bool
	Logs      [][]api.Record
}

func look(t *testing.T, h *hoard.Hoard, s api.Shape) state {
	t.Helper()
	var x state
	x.Bytes, x.Gone = lookAtBytes(t, h, s)
	n, e := h.Steps()
	if e != api.OK {
		t.Fatalf("P4: Steps = %d, %d", n, e)
	}
	x.Steps = n
	for d := range s.Data + s.Parity {
		y, e := h.Drive(d)
		if e != api.OK {
			t.Fatalf("P4: shape %+v: Drive(%d) = %+v, %d", s, d, y, e)
		}
		x.Drives = append(x.Drives, y)
		cells, available := make([]api.Cell, s.Rows), make([]bool, s.Rows)
		for row := range s.Rows {
			c, e := h.Cell(d, row)
			if e != api.OK && (e != api.ErrState || c != (api.Cell{})) {
				t.Fatalf("P1, P7: shape %+v: Cell(%d, %d) = %v, %d", s, d, row, c, e)
			}
			cells[row], available[row] = c, e == api.OK
		}
		x.Cells, x.Available = append(x.Cells, cells), append(x.Available, available)
		if d < s.Data {
			continue
		}
		k, e := h.Log(d)
		if y.Lost && (k != nil || e != api.ErrState) || !y.Lost && (len(k) != y.Records || e != api.OK) {
			t.Fatalf("P1, P7: shape %+v: drive %+v: Log(%d) = %v, %d", s, y, d, k, e)
		}
		x.Logs = append(x.Logs, append([]api.Record{}, k...))
	}
	return x
}

// lookAtBytes reads block by block, and all at once.
func lookAtBytes(t *testing.T, h *hoard.Hoard, s api.Shape) ([]byte, []bool) {
	t.Helper()
	var all []byte
	var gone []bool
	for b := range s.Data * s.Rows {
		l, e := h.Read(b*4, 4)
		if e != api.OK && (e != api.ErrLost || l != nil) || e == api.OK && len(l) != 4 {
			t.Fatalf("P1, P5: shape %+v: Read(%d, 4) = %v, %d", s, b*4, l, e)
		}
		if e != api.OK {
			l = make([]byte, 4)
		}
		all, gone = append(all, l...), append(gone, e != api.OK)
	}
	l, e := h.Read(0, size(s))
	if slices.Contains(gone, true) && (l != nil || e != api.ErrLost) || !slices.Contains(gone, true) && (!slices.Equal(l, all) || e != api.OK) {
		t.Fatalf("P5: shape %+v: Read of all = %v, %d, but blocks are %v, gone %v", s, l, e, all, gone)
	}
	return all, gone
}

func wantState(t *testing.T, h *hoard.Hoard, s api.Shape, want state, what string) {
	t.Helper()
	if x := look(t, h, s); !reflect.DeepEqual(x, want) {
		t.Fatalf("%s: shape %+v:\n%+v, want\n%+v", what, s, x, want)
	}
}
