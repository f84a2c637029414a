package hoard_test

import (
	"math"
	"reflect"
	"slices"
	"testing"

	"hoard/api"
	"hoard/hoard"
)

// edges are numbers at which sums and indices go wrong most easily.
var edges = []int{math.MinInt, math.MinInt + 1, -97, -2, -1, 0, 1, 2, 3, 4, 5, 6, 7, 8, 9, 15, 16, 17, 95, 96, 97, 1 << 32, 1 << 62, math.MaxInt - 1, math.MaxInt}

// every lists all shapes that there may be.
func every() []api.Shape {
	var all []api.Shape
	for data := 1; data <= 4; data++ {
		for parity := 1; parity <= 2; parity++ {
			for rows := 1; rows <= 6; rows++ {
				for room := 1; room <= 8; room++ {
					all = append(all, api.Shape{Data: data, Parity: parity, Rows: rows, Room: room})
				}
			}
		}
	}
	return all
}

func size(s api.Shape) int { return s.Data * s.Rows * 4 }

func begin(t *testing.T, data, parity, rows, room int) *hoard.Hoard {
	t.Helper()
	h, e := hoard.New(api.Shape{Data: data, Parity: parity, Rows: rows, Room: room})
	if h == nil || e != api.OK {
		t.Fatalf("P4: New(%d, %d, %d, %d) = %v, %d", data, parity, rows, room, h, e)
	}
	return h
}

func write(t *testing.T, h *hoard.Hoard, from int, data ...byte) {
	t.Helper()
	if e := h.Write(from, data); e != api.OK {
		t.Fatalf("P6: Write(%d, %v) = %d", from, data, e)
	}
}

func wantRead(t *testing.T, h *hoard.Hoard, from int, want ...byte) {
	t.Helper()
	l, e := h.Read(from, len(want))
	if e != api.OK || !slices.Equal(l, want) {
		t.Errorf("P5: Read(%d, %d) = %v, %d, want %v", from, len(want), l, e, want)
	}
}

func wantCell(t *testing.T, h *hoard.Hoard, d, row int, want api.Cell) {
	t.Helper()
	c, e := h.Cell(d, row)
	if e != api.OK || c != want {
		t.Errorf("P7: Cell(%d, %d) = %v, %d, want %v", d, row, c, e, want)
	}
}

func wantLog(t *testing.T, h *hoard.Hoard, d int, want ...api.Record) {
	t.Helper()
	l, e := h.Log(d)
	if e != api.OK || !slices.Equal(l, want) {
		t.Errorf("P7: Log(%d) = %v, %d, want %v", d, l, e, want)
	}
	x, e := h.Drive(d)
	if e != api.OK || x != (api.Drive{Records: len(want)}) {
		t.Errorf("P4: Drive(%d) = %+v, %d, want %d records", d, x, e, len(want))
	}
}

func wantSteps(t *testing.T, h *hoard.Hoard, want int) {
	t.Helper()
	n, e := h.Steps()
	if e != api.OK || n != want {
		t.Errorf("P4: Steps = %d, %d, want %d", n, e, want)
	}
}

func wantMerge(t *testing.T, h *hoard.Hoard, d, n, want int) {
	t.Helper()
	k, e := h.Merge(d, n)
	if e != api.OK || k != want {
		t.Errorf("P7: Merge(%d, %d) = %d, %d, want %d", d, n, k, e, want)
	}
}

func record(row int, a, b, c, d byte) api.Record {
	return api.Record{Row: row, Bytes: api.Cell{a, b, c, d}}
}

// state is all that can be seen of a hoard.
type state struct {
	Bytes  []byte
	Steps  int
	Drives []api.Drive
	Cells  [][]api.Cell
	Logs   [][]api.Record
}

func look(t *testing.T, h *hoard.Hoard, s api.Shape) state {
	t.Helper()
	var x state
	errs := make([]api.Errno, 0, 64)
	l, e := h.Read(0, size(s))
	x.Bytes, errs = l, append(errs, e)
	x.Steps, e = h.Steps()
	errs = append(errs, e)
	for d := range s.Data + s.Parity {
		y, e := h.Drive(d)
		x.Drives, errs = append(x.Drives, y), append(errs, e)
		var column []api.Cell
		for row := range s.Rows {
			c, e := h.Cell(d, row)
			column, errs = append(column, c), append(errs, e)
		}
		x.Cells = append(x.Cells, column)
	}
	for d := s.Data; d < s.Data+s.Parity; d++ {
		k, e := h.Log(d)
		x.Logs, errs = append(x.Logs, append([]api.Record{}, k...)), append(errs, e)
	}
	for _, e := range errs {
		if e != api.OK {
			t.Fatalf("P4, P5, P7: shape %+v: an error %d among %v", s, e, errs)
		}
	}
	return x
}

func wantState(t *testing.T, h *hoard.Hoard, s api.Shape, want state, what string) {
	t.Helper()
	if x := look(t, h, s); !reflect.DeepEqual(x, want) {
		t.Fatalf("%s: shape %+v:\n%+v, want\n%+v", what, s, x, want)
	}
}
