package hoard

import (
	"hoard/api"
	"hoard/field"
)

func isShape(s api.Shape) bool {
	return within(s.Data, api.MaxData) && within(s.Parity, api.MaxParity) &&
		within(s.Rows, api.MaxRows) && within(s.Room, api.MaxRoom)
}

func within(n int, most int) bool {
	return n >= 1 && n <= most
}

func (h *Hoard) isDrive(d int) bool {
	return d >= 0 && d < h.shape.Data+h.shape.Parity
}

func (h *Hoard) isParity(d int) bool {
	return d >= h.shape.Data && d < h.shape.Data+h.shape.Parity
}

func (h *Hoard) isRow(row int) bool {
	return row >= 0 && row < h.shape.Rows
}

// hasBytes tells whether there are n bytes from the byte from on.
func (h *Hoard) hasBytes(from int, n int) bool {
	all := h.shape.Data * h.shape.Rows * api.Block
	// from plus n could be above the greatest int, all less from cannot.
	return from >= 0 && n >= 0 && from <= all && n <= all-from
}

// blocks gives the first of the blocks in which n bytes from the byte from on
// lie, and the one behind the last; without bytes there is none between them.
func blocks(from int, n int) (int, int) {
	first := from / api.Block
	if n == 0 {
		return first, first
	}
	return first, (from+n-1)/api.Block + 1
}

// place gives the data drive and the row of a block.
func (h *Hoard) place(block int) (int, int) {
	return block % h.shape.Data, block / h.shape.Data
}

// weight tells what the cell of data drive c is taken times in the equation of parity drive d.
func (h *Hoard) weight(d int, c int) uint8 {
	w := uint8(1)
	if d == h.shape.Data {
		return w
	}
	for i := 0; i < c; i++ {
		w = field.Mul(w, 2)
	}
	return w
}
