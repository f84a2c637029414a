package hoard

import (
	"hoard/api"
	"hoard/field"
)

// isWhole tells whether all cells of the row are available.
func (h *Hoard) isWhole(row int) bool {
	for d := 0; d < h.shape.Data+h.shape.Parity; d++ {
		if !h.drives[d].has(row) {
			return false
		}
	}
	return true
}

// equationsHold tells whether all equations of the row, which is whole, hold.
func (h *Hoard) equationsHold(row int) bool {
	for p := h.shape.Data; p < h.shape.Data+h.shape.Parity; p++ {
		if h.gap(p, row) != (api.Cell{}) {
			return false
		}
	}
	return true
}

// explaining lists the drives that explain why the equations of the row, which is whole, do not hold.
func (h *Hoard) explaining(row int) []int {
	l := []int{}
	for d := 0; d < h.shape.Data+h.shape.Parity; d++ {
		if h.explains(d, row) {
			l = append(l, d)
		}
	}
	return l
}

// explains tells whether other bytes in the cell of drive d alone would make all equations of the row hold.
func (h *Hoard) explains(d int, row int) bool {
	change := h.mending(d, row)
	for p := h.shape.Data; p < h.shape.Data+h.shape.Parity; p++ {
		w := h.share(p, d)
		taken := field.Scale(w, change)
		if h.gap(p, row) != taken {
			return false
		}
	}
	return true
}

// mending gives the one change of the cell of drive d that may make all
// equations of the row hold.
func (h *Hoard) mending(d int, row int) api.Cell {
	// In these equations the cell is taken once, so that the gap is the change.
	if h.isParity(d) {
		return h.gap(d, row)
	}
	return h.gap(h.shape.Data, row)
}

// share tells what a change of the cell of drive d, data or parity, is taken times in the equation of parity drive p.
func (h *Hoard) share(p int, d int) uint8 {
	if !h.isParity(d) {
		return h.weight(p, d)
	}
	if d == p {
		return 1
	}
	return 0
}

// mend gives the cell of drive d, which explains it, the bytes that make all equations of the row hold.
func (h *Hoard) mend(d int, row int) {
	change := h.mending(d, row)
	h.drives[d].cells[row] = field.Add(h.drives[d].cells[row], change)
}
