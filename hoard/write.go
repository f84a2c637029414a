package hoard

import (
	"hoard/api"
	"hoard/field"
)

// writeBlock writes those bytes of data, which begins at the byte from, that lie in the block.
func (h *Hoard) writeBlock(block int, from int, data []byte) {
	c, row := h.place(block)
	before := h.holds(c, row)
	after := overlay(before, block*api.Block-from, data)
	if after == before {
		return
	}
	h.steps++ // The block is noted: only a hoard that can go down has to keep the note.
	change := field.Add(before, after)
	for d := h.shape.Data; d < h.shape.Data+h.shape.Parity; d++ {
		if h.drives[d].has(row) {
			h.noteChange(d, c, row, change)
			h.steps++
		}
	}
	if !h.drives[c].lost {
		h.drives[c].lay(row, after)
		h.steps++
	}
	h.steps++ // The note is struck out.
}

// noteChange notes in the log of parity drive d that the cell of data drive c changes.
func (h *Hoard) noteChange(d int, c int, row int, change api.Cell) {
	w := h.weight(d, c)
	r := api.Record{Row: row, Bytes: field.Scale(w, change)}
	h.drives[d].note(r, h.shape.Room)
}

// overlay gives the cell with the bytes of data in their places; the cell's first byte is the byte start of data.
func overlay(cell api.Cell, start int, data []byte) api.Cell {
	for i := 0; i < api.Block; i++ {
		at := start + i
		if at >= 0 && at < len(data) {
			cell[i] = data[at]
		}
	}
	return cell
}
