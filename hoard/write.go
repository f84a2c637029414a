package hoard

import (
	"hoard/api"
	"hoard/field"
)

// note is what is kept of a block from its first step to its last.
type note struct {
	block int
	after api.Cell
	// By what the block changes. What a lost drive held before could not be told
	// any more once one of the logs has the change and another has not.
	change api.Cell
	takers []int // The drives that take in the change, in the order of the steps.
	done   int   // How many of them have.
}

// breakPoint is a Break that is still to come: the hoard goes down in the place
// of the first step behind so many.
type breakPoint struct {
	isSet  bool
	behind int
}

// writeBlock writes those bytes of data, which begins at the byte from, that
// lie in the block. It tells whether the hoard is still up.
func (h *Hoard) writeBlock(block int, from int, data []byte) bool {
	c, row := h.place(block)
	before := h.holds(c, row)
	after := overlay(before, block*api.Block-from, data)
	if after == before {
		return true
	}
	if !h.step() {
		return false
	}
	takers := h.takers(c, row)
	h.noted = note{block: block, after: after, change: field.Add(before, after), takers: takers}
	for i := 0; i < len(takers); i++ {
		if !h.step() {
			return false
		}
		h.takeIn(takers[i])
		h.noted.done++
	}
	if !h.step() {
		return false
	}
	h.noted = note{}
	return true
}

// step counts a step that is about to be done, or lets the hoard go down in its
// place. It tells whether the step is to be done.
func (h *Hoard) step() bool {
	if h.breakPoint.isSet && h.breakPoint.behind == h.steps {
		h.breakPoint = breakPoint{}
		h.isDown = true
		return false
	}
	h.steps++
	return true
}

// takers lists the drives that take in a change of the cell of data drive c, in the order of the steps.
func (h *Hoard) takers(c int, row int) []int {
	l := h.availableParity(row)
	if !h.drives[c].lost {
		l = append(l, c)
	}
	return l
}

// takeIn lets drive d take in the change of the noted block.
func (h *Hoard) takeIn(d int) {
	c, row := h.place(h.noted.block)
	if d == c {
		h.drives[c].lay(row, h.noted.after)
		return
	}
	w := h.weight(d, c)
	r := api.Record{Row: row, Bytes: field.Scale(w, h.noted.change)}
	h.drives[d].addRecord(r, h.shape.Room)
}

// overlay gives the cell with the bytes of data in their places; the cell's first byte is the byte start of data.
func overlay(cell api.Cell, start int, data []byte) api.Cell {
	for i := 0; i < api.Block; i++ {
		at := start + i
		if at >= 0 && at < len(data) {
			cell[i] = data[at]
		}
	}
	return cell
}
