package hoard

import (
	"hoard/api"
	"hoard/field"
)

// drive is what lies on one drive. The log of a data drive stays empty, and a
// log has records of built cells alone.
type drive struct {
	lost    bool
	unbuilt [api.MaxRows]bool
	cells   [api.MaxRows]api.Cell
	log     []api.Record
}

// blankDrive gives a live drive of which no cell is built.
func blankDrive(rows int) drive {
	d := drive{}
	for row := 0; row < rows && row < api.MaxRows; row++ {
		d.unbuilt[row] = true
	}
	return d
}

// has tells whether the cell in the row is available.
func (d *drive) has(row int) bool {
	return !d.lost && !d.unbuilt[row]
}

// countUnbuilt tells how many cells are not built.
func (d *drive) countUnbuilt() int {
	n := 0
	for row := 0; row < api.MaxRows; row++ {
		if d.unbuilt[row] {
			n++
		}
	}
	return n
}

// lay lays bytes into the cell in the row, which is then built.
func (d *drive) lay(row int, c api.Cell) {
	d.cells[row] = c
	d.unbuilt[row] = false
}

// value gives the bytes of the cell in the row with those that the log has for it.
func (d *drive) value(row int) api.Cell {
	sum := d.cells[row]
	for i := 0; i < len(d.log); i++ {
		if d.log[i].Row == row {
			sum = field.Add(sum, d.log[i].Bytes)
		}
	}
	return sum
}

// addRecord appends a record to the log, which has room for so many records.
func (d *drive) addRecord(r api.Record, room int) {
	if len(d.log) >= room {
		d.merge(1)
	}
	d.log = append(d.log, r)
}

// merge merges the n oldest records, or all if there are fewer, and tells how many.
func (d *drive) merge(n int) int {
	if n > len(d.log) {
		n = len(d.log)
	}
	for i := 0; i < n; i++ {
		r := d.log[i]
		d.cells[r.Row] = field.Add(d.cells[r.Row], r.Bytes)
	}
	// What is left moves to a list of its own, so that merged records are not kept.
	d.log = append([]api.Record{}, d.log[n:]...)
	return n
}
