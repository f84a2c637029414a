package hoard

import (
	"hoard/api"
	"hoard/field"
)

// drive is what lies on one drive; the log of a data drive stays empty.
type drive struct {
	cells [api.MaxRows]api.Cell
	log   []api.Record
}

// note appends a record to the log, which has room for so many records.
func (d *drive) note(r api.Record, room int) {
	if len(d.log) >= room {
		d.merge(1)
	}
	d.log = append(d.log, r)
}

// merge merges the n oldest records, or all if there are fewer, and tells how many.
func (d *drive) merge(n int) int {
	if n > len(d.log) {
		n = len(d.log)
	}
	for i := 0; i < n; i++ {
		r := d.log[i]
		d.cells[r.Row] = field.Add(d.cells[r.Row], r.Bytes)
	}
	// What is left moves to a list of its own, so that merged records are not kept.
	d.log = append([]api.Record{}, d.log[n:]...)
	return n
}
