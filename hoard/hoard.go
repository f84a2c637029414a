// Package hoard: bytes over several drives, some of which may be lost: see DOC.md.
package hoard

import (
	"hoard/api"
	"hoard/field"
)

// Hoard keeps bytes on drives.
type Hoard struct {
	shape      api.Shape
	drives     [api.MaxData + api.MaxParity]drive
	steps      int
	noted      note
	breakPoint breakPoint
	isDown     bool
}

// Mul multiplies in the field (P3).
func Mul(a uint8, b uint8) uint8 {
	return field.Mul(a, b)
}

// Div divides in the field (P3).
func Div(a uint8, b uint8) (uint8, api.Errno) {
	if b == 0 {
		return 0, api.ErrArg
	}
	return field.Div(a, b), api.OK
}

// New makes a hoard (P4).
func New(s api.Shape) (*Hoard, api.Errno) {
	if !isShape(s) {
		return nil, api.ErrShape
	}
	return &Hoard{shape: s}, api.OK
}

// Read gives bytes (P5).
func (h *Hoard) Read(from int, n int) ([]byte, api.Errno) {
	if h.isDown {
		return nil, api.ErrDown
	}
	if !h.hasBytes(from, n) {
		return nil, api.ErrRange
	}
	if h.isAnyGone(from, n) {
		return nil, api.ErrLost
	}
	out := make([]byte, n)
	for i := 0; i < n; i++ {
		at := from + i
		c, row := h.place(at / api.Block)
		cell := h.holds(c, row)
		out[i] = cell[at%api.Block]
	}
	return out, api.OK
}

// Write lays bytes (P6).
func (h *Hoard) Write(from int, data []byte) api.Errno {
	if h.isDown {
		return api.ErrDown
	}
	if !h.hasBytes(from, len(data)) {
		return api.ErrRange
	}
	if h.isAnyGone(from, len(data)) {
		return api.ErrLost
	}
	first, end := blocks(from, len(data))
	for block := first; block < end; block++ {
		if !h.writeBlock(block, from, data) {
			return api.ErrDown
		}
	}
	return api.OK
}

// Steps tells how many steps were done (P4).
func (h *Hoard) Steps() (int, api.Errno) {
	if h.isDown {
		return 0, api.ErrDown
	}
	return h.steps, api.OK
}

// Drive tells how a drive is (P4).
func (h *Hoard) Drive(d int) (api.Drive, api.Errno) {
	if h.isDown {
		return api.Drive{}, api.ErrDown
	}
	if !h.isDrive(d) {
		return api.Drive{}, api.ErrDrive
	}
	x := &h.drives[d]
	return api.Drive{Lost: x.lost, Unbuilt: x.countUnbuilt(), Records: len(x.log)}, api.OK
}

// Cell gives the bytes of a cell (P7).
func (h *Hoard) Cell(d int, row int) (api.Cell, api.Errno) {
	if h.isDown {
		return api.Cell{}, api.ErrDown
	}
	if !h.isDrive(d) {
		return api.Cell{}, api.ErrDrive
	}
	if !h.isRow(row) {
		return api.Cell{}, api.ErrArg
	}
	if !h.drives[d].has(row) {
		return api.Cell{}, api.ErrState
	}
	return h.drives[d].cells[row], api.OK
}

// Log gives the records of a log (P7).
func (h *Hoard) Log(d int) ([]api.Record, api.Errno) {
	if h.isDown {
		return nil, api.ErrDown
	}
	if !h.isParity(d) {
		return nil, api.ErrDrive
	}
	if h.drives[d].lost {
		return nil, api.ErrState
	}
	return append([]api.Record{}, h.drives[d].log...), api.OK
}

// Merge merges records (P7).
func (h *Hoard) Merge(d int, n int) (int, api.Errno) {
	if h.isDown {
		return 0, api.ErrDown
	}
	if !h.isParity(d) {
		return 0, api.ErrDrive
	}
	if h.drives[d].lost {
		return 0, api.ErrState
	}
	if n < 1 {
		return 0, api.ErrArg
	}
	return h.drives[d].merge(n), api.OK
}

// Fail loses a drive (P8).
func (h *Hoard) Fail(d int) api.Errno {
	if h.isDown {
		return api.ErrDown
	}
	if !h.isDrive(d) {
		return api.ErrDrive
	}
	if h.drives[d].lost {
		return api.ErrState
	}
	h.drives[d] = drive{lost: true}
	return api.OK
}

// Replace puts a blank drive in the place of a lost one (P8).
func (h *Hoard) Replace(d int) api.Errno {
	if h.isDown {
		return api.ErrDown
	}
	if !h.isDrive(d) {
		return api.ErrDrive
	}
	if !h.drives[d].lost {
		return api.ErrState
	}
	h.drives[d] = blankDrive(h.shape.Rows)
	return api.OK
}

// Rebuild builds cells (P9).
func (h *Hoard) Rebuild(d int, n int) (int, api.Errno) {
	if h.isDown {
		return 0, api.ErrDown
	}
	if !h.isDrive(d) {
		return 0, api.ErrDrive
	}
	if h.drives[d].lost {
		return 0, api.ErrState
	}
	if n < 1 {
		return 0, api.ErrArg
	}
	count := 0
	for row := 0; row < h.shape.Rows && count < n; row++ {
		if h.rebuildCell(d, row) {
			count++
		}
	}
	return count, api.OK
}

// Break lets the hoard go down later (P10).
func (h *Hoard) Break(n int) api.Errno {
	if h.isDown {
		return api.ErrDown
	}
	if n < 0 || n > api.MaxBreak {
		return api.ErrArg
	}
	h.breakPoint = breakPoint{isSet: true, behind: h.steps + n}
	return api.OK
}

// Mount brings the hoard up again (P11).
func (h *Hoard) Mount() api.Errno {
	if !h.isDown {
		return api.ErrState
	}
	for i := h.noted.done; i < len(h.noted.takers); i++ {
		h.takeIn(h.noted.takers[i])
	}
	h.noted = note{}
	h.isDown = false
	return api.OK
}

// Corrupt lets a byte go bad (P12).
func (h *Hoard) Corrupt(d int, row int, at int, by uint8) api.Errno {
	if h.isDown {
		return api.ErrDown
	}
	if !h.isDrive(d) {
		return api.ErrDrive
	}
	if !h.isRow(row) || at < 0 || at >= api.Block {
		return api.ErrArg
	}
	if !h.drives[d].has(row) {
		return api.ErrState
	}
	h.drives[d].cells[row][at] ^= by
	return api.OK
}

// Scrub looks whether a row's bytes are right, and mends them (P13).
func (h *Hoard) Scrub(row int) (int, api.Errno) {
	if h.isDown {
		return 0, api.ErrDown
	}
	if !h.isRow(row) {
		return 0, api.ErrArg
	}
	if !h.isWhole(row) {
		return 0, api.ErrState
	}
	if h.equationsHold(row) {
		return -1, api.OK
	}
	drives := h.explaining(row)
	if len(drives) != 1 {
		return 0, api.ErrBad
	}
	h.mend(drives[0], row)
	return drives[0], api.OK
}
