package hoard

import (
	"hoard/api"
	"hoard/field"
)

// isAnyGone tells whether a block in which one of the n bytes from the byte from on lies is gone.
func (h *Hoard) isAnyGone(from int, n int) bool {
	first, end := blocks(from, n)
	for block := first; block < end; block++ {
		c, row := h.place(block)
		if !h.drives[c].has(row) && h.hasGone(row) {
			return true
		}
	}
	return false
}

// hasGone tells whether a data cell of the row is gone. Then all that are not available are.
func (h *Hoard) hasGone(row int) bool {
	missing := h.missingData(row)
	parity := h.availableParity(row)
	return len(missing) > len(parity)
}

// missingData lists the data drives whose cells in the row are not available.
func (h *Hoard) missingData(row int) []int {
	l := []int{}
	for c := 0; c < h.shape.Data; c++ {
		if !h.drives[c].has(row) {
			l = append(l, c)
		}
	}
	return l
}

// availableParity lists the parity drives whose cells in the row are available.
func (h *Hoard) availableParity(row int) []int {
	l := []int{}
	for d := h.shape.Data; d < h.shape.Data+h.shape.Parity; d++ {
		if h.drives[d].has(row) {
			l = append(l, d)
		}
	}
	return l
}

// holds gives what the cell of data drive c holds; it is not gone.
func (h *Hoard) holds(c int, row int) api.Cell {
	if h.drives[c].has(row) {
		return h.drives[c].cells[row]
	}
	missing := h.missingData(row)
	parity := h.availableParity(row)
	if len(missing) == 1 && len(parity) >= 1 {
		return h.solveOne(c, row, parity[0])
	}
	if len(missing) == 2 && len(parity) == 2 {
		other := missing[0]
		if other == c {
			other = missing[1]
		}
		return h.solveTwo(c, other, row, parity[0], parity[1])
	}
	return api.Cell{}
}

// solveOne gives what data drive c must have in the row, where it alone is
// missing, so that the equation of parity drive d holds.
func (h *Hoard) solveOne(c int, row int, d int) api.Cell {
	rest := h.gap(d, row)
	w := h.weight(d, c)
	return field.Scale(field.Div(1, w), rest)
}

// solveTwo gives what data drive c must have in the row, where it and another
// one are missing, so that the equations of the parity drives d and e hold.
func (h *Hoard) solveTwo(c int, other int, row int, d int, e int) api.Cell {
	// Each equation times what the other drive's cell is taken times in the other
	// equation: in the sum of the two the other drive's cell falls out.
	a := h.weight(e, other)
	b := h.weight(d, other)
	ofD := field.Scale(a, h.gap(d, row))
	ofE := field.Scale(b, h.gap(e, row))
	times := field.Mul(a, h.weight(d, c)) ^ field.Mul(b, h.weight(e, c))
	return field.Scale(field.Div(1, times), field.Add(ofD, ofE))
}

// gap gives by what the available cells of the row fall short of the equation
// of parity drive d: what the missing data cells must add up to in it, and
// noughts if none is missing and the equation holds.
func (h *Hoard) gap(d int, row int) api.Cell {
	sum := h.drives[d].value(row)
	for c := 0; c < h.shape.Data; c++ {
		if h.drives[c].has(row) {
			sum = field.Add(sum, field.Scale(h.weight(d, c), h.drives[c].cells[row]))
		}
	}
	return sum
}

// rebuildCell builds the cell of drive d in the row, if it is not built and can be, and tells whether it did.
func (h *Hoard) rebuildCell(d int, row int) bool {
	if h.drives[d].has(row) || h.hasGone(row) {
		return false
	}
	cell := api.Cell{}
	if h.isParity(d) {
		cell = h.paritySum(d, row)
	} else {
		cell = h.holds(d, row)
	}
	h.drives[d].lay(row, cell)
	return true
}

// paritySum gives the value that the cell of parity drive d must have in the
// row. A cell that is not built gets it as its bytes, as the log has no records of it.
func (h *Hoard) paritySum(d int, row int) api.Cell {
	sum := api.Cell{}
	for c := 0; c < h.shape.Data; c++ {
		cell := h.holds(c, row)
		sum = field.Add(sum, field.Scale(h.weight(d, c), cell))
	}
	return sum
}
