package hoard_test

import (
	"math/rand"
	"testing"

	"hoard/api"
	"hoard/hoard"
)

// model is a hoard that never forgets a byte. It only keeps count of what may
// be seen: so it solves no equation to tell what is on a lost drive, and finds
// the bytes of a parity cell from its equation and what is left of the log. A
// block it writes whole or not at all: all it knows of steps is how many there are.
// Only where bytes went bad it tries out which numbers fit (bad_model_test.go).
type model struct {
	s     api.Shape
	bytes []byte
	steps int
	lost  [6]bool
	blank [6][6]bool
	logs  [2][]api.Record
	down  bool
	left  []int          // of a Break that is to come, how many more steps
	off   [2][6]api.Cell // of each parity cell, by what its value is not what its equation asks
}

// power is b times 2 to the power of c.
func power(b byte, c int) byte {
	n := int(b)
	for range c {
		n <<= 1
		if n > 255 {
			n ^= 285
		}
	}
	return byte(n)
}

func (m *model) drives() int { return m.s.Data + m.s.Parity }

func (m *model) has(d, row int) bool { return !m.lost[d] && !m.blank[d][row] }

// short tells whether more data cells of the row are missing than there are parity cells.
func (m *model) short(row int) bool {
	n := 0
	for d := range m.drives() {
		if d < m.s.Data && !m.has(d, row) {
			n++
		}
		if d >= m.s.Data && m.has(d, row) {
			n--
		}
	}
	return n > 0
}

func (m *model) gone(block int) bool {
	row := block / m.s.Data
	return !m.has(block%m.s.Data, row) && m.short(row)
}

func (m *model) write(from int, data []byte) api.Errno {
	if m.down {
		return api.ErrDown
	}
	for i := range data {
		if m.gone((from + i) / 4) {
			return api.ErrLost
		}
	}
	after := append([]byte{}, m.bytes...)
	copy(after[from:], data)
	for b := range len(after) / 4 {
		now := [4]byte(after[b*4:])
		if now == [4]byte(m.bytes[b*4:]) {
			continue
		}
		n := m.stepsOf(b)
		if m.left != nil && m.left[0] < n {
			if m.left[0] > 0 {
				m.writeBlock(b, now)
			}
			m.steps += m.left[0]
			m.left, m.down = nil, true
			return api.ErrDown
		}
		m.writeBlock(b, now)
		m.steps += n
		if m.left != nil {
			m.left[0] -= n
		}
	}
	return api.OK
}

// stepsOf tells of how many steps a Write of the block is.
func (m *model) stepsOf(b int) int {
	n := 2
	for p := range m.s.Parity {
		if m.has(m.s.Data+p, b/m.s.Data) {
			n++
		}
	}
	if !m.lost[b%m.s.Data] {
		n++
	}
	return n
}

func (m *model) writeBlock(b int, now [4]byte) {
	c, row := b%m.s.Data, b/m.s.Data
	for p := range m.s.Parity {
		if !m.has(m.s.Data+p, row) {
			continue
		}
		r := api.Record{Row: row}
		for i := range 4 {
			r.Bytes[i] = power(m.bytes[b*4+i]^now[i], p*c)
		}
		l := append(m.logs[p], r)
		m.logs[p] = l[max(0, len(l)-m.s.Room):]
	}
	if !m.lost[c] {
		m.blank[c][row] = false
	}
	copy(m.bytes[b*4:], now[:])
}

func (m *model) breakOff(n int) api.Errno {
	switch {
	case m.down:
		return api.ErrDown
	case n < 0 || n > 1000:
		return api.ErrArg
	}
	m.left = []int{n}
	return api.OK
}

func (m *model) mount() api.Errno {
	if !m.down {
		return api.ErrState
	}
	m.down = false
	return api.OK
}

func (m *model) merge(d, n int) (int, api.Errno) {
	switch {
	case m.down:
		return 0, api.ErrDown
	case d < m.s.Data || d >= m.drives():
		return 0, api.ErrDrive
	case m.lost[d]:
		return 0, api.ErrState
	case n < 1:
		return 0, api.ErrArg
	}
	l := &m.logs[d-m.s.Data]
	n = min(n, len(*l))
	*l = (*l)[n:]
	return n, api.OK
}

func (m *model) fail(d int) api.Errno {
	switch {
	case m.down:
		return api.ErrDown
	case d < 0 || d >= m.drives():
		return api.ErrDrive
	case m.lost[d]:
		return api.ErrState
	}
	m.lost[d] = true
	if d >= m.s.Data {
		m.logs[d-m.s.Data] = nil
	}
	for row := range m.s.Rows {
		m.settle(row)
	}
	return api.OK
}

func (m *model) replace(d int) api.Errno {
	switch {
	case m.down:
		return api.ErrDown
	case d < 0 || d >= m.drives():
		return api.ErrDrive
	case !m.lost[d]:
		return api.ErrState
	}
	m.lost[d] = false
	for row := range m.s.Rows {
		m.blank[d][row] = true
	}
	return api.OK
}

func (m *model) rebuild(d, n int) (int, api.Errno) {
	switch {
	case m.down:
		return 0, api.ErrDown
	case d < 0 || d >= m.drives():
		return 0, api.ErrDrive
	case m.lost[d]:
		return 0, api.ErrState
	case n < 1:
		return 0, api.ErrArg
	}
	k := 0
	for row := range m.s.Rows {
		if k < n && m.blank[d][row] && !m.short(row) {
			m.blank[d][row] = false
			if d >= m.s.Data {
				m.off[d-m.s.Data][row] = api.Cell{}
			}
			k++
		}
	}
	return k, api.OK
}

// cell gives the bytes of a cell.
func (m *model) cell(d, row int) api.Cell {
	if d < m.s.Data {
		return api.Cell(m.bytes[(row*m.s.Data+d)*4:])
	}
	p := d - m.s.Data
	sum := m.off[p][row]
	for c := range m.s.Data {
		for i, b := range m.cell(c, row) {
			sum[i] ^= power(b, p*c)
		}
	}
	for _, r := range m.logs[p] {
		for i, b := range r.Bytes {
			if r.Row == row {
				sum[i] ^= b
			}
		}
	}
	return sum
}

func (m *model) look() state {
	x := state{Bytes: append([]byte{}, m.bytes...), Steps: m.steps}
	for b := range len(m.bytes) / 4 {
		x.Gone = append(x.Gone, m.gone(b))
		if m.gone(b) {
			copy(x.Bytes[b*4:], make([]byte, 4))
		}
	}
	for d := range m.drives() {
		y := api.Drive{Lost: m.lost[d]}
		cells, available := make([]api.Cell, m.s.Rows), make([]bool, m.s.Rows)
		for row := range m.s.Rows {
			if m.has(d, row) {
				cells[row], available[row] = m.cell(d, row), true
			} else if !m.lost[d] {
				y.Unbuilt++
			}
		}
		if d >= m.s.Data {
			l := m.logs[d-m.s.Data]
			y.Records = len(l)
			x.Logs = append(x.Logs, append([]api.Record{}, l...))
		}
		x.Drives = append(x.Drives, y)
		x.Cells, x.Available = append(x.Cells, cells), append(x.Available, available)
	}
	return x
}

// laid gives a hoard with filled cells and logs, of whose drives some are lost
// or blank: of a drive's two bits of the choice the lower one tells that it was
// lost, the other that it was replaced. The model is of the same state.
func laid(t *testing.T, s api.Shape, choice int) (*hoard.Hoard, *model) {
	t.Helper()
	h := filled(t, s)
	m := &model{s: s, bytes: look(t, h, s).Bytes}
	m.steps, _ = h.Steps()
	for d := range s.Data + s.Parity {
		if d >= s.Data {
			m.logs[d-s.Data], _ = h.Log(d)
		}
		if choice>>(2*d)&1 == 1 {
			fail(t, h, d)
			m.fail(d)
		}
		if choice>>(2*d)&3 == 3 {
			replace(t, h, d)
			m.replace(d)
		}
	}
	return h, m
}

// drawn gives some bytes from a place on, more often few than many, and often nought.
func drawn(r *rand.Rand, all int) (int, []byte) {
	from := r.Intn(all + 1)
	n := r.Intn(all - from + 1)
	if r.Intn(3) > 0 {
		n = min(n, 6)
	}
	l := make([]byte, n)
	if r.Intn(4) > 0 {
		r.Read(l)
	}
	return from, l
}

// drawnDrive gives a drive, seldom one that there is not.
func drawnDrive(r *rand.Rand, m *model) int {
	if r.Intn(12) == 0 {
		return r.Intn(20) - 7
	}
	return r.Intn(m.drives())
}

// mayFail tells whether no byte is gone by the loss of one drive more; now and then it is done all the same.
func mayFail(r *rand.Rand, m *model) bool {
	n := 0
	for d := range m.drives() {
		if m.lost[d] || m.blank[d] != [6]bool{} {
			n++
		}
	}
	return n < m.s.Parity || r.Intn(15) == 0
}

// Letters for the calls that drawnCall draws from, each as often as it stands there.
const (
	live = "wwwwwwmm" // Write, Merge
	lost = "ffrrbbbb" // Fail, Replace, Rebuild
	down = "kkku"     // Break, Mount
	bad  = "cccsss"   // Corrupt, Scrub
)

// drawnBreak gives a number for Break, seldom one that may not be.
func drawnBreak(r *rand.Rand) int {
	if r.Intn(12) == 0 {
		return []int{-1, 1000, 1001}[r.Intn(3)]
	}
	return r.Intn(15)
}

// drawnRow gives a row, seldom one that there is not.
func drawnRow(r *rand.Rand, m *model) int {
	if r.Intn(12) == 0 {
		return r.Intn(20) - 7
	}
	return r.Intn(m.s.Rows)
}

// drawnByte gives the place of a byte in a cell, seldom one that there is not, and what is added to it, often nought.
func drawnByte(r *rand.Rand) (int, byte) {
	at := r.Intn(4)
	if r.Intn(12) == 0 {
		at = r.Intn(20) - 7
	}
	return at, byte(r.Intn(2) * r.Intn(256))
}

// drawnCall does a drawn call on both; the answers must be the same.
func drawnCall(t *testing.T, r *rand.Rand, h *hoard.Hoard, m *model, letters string) {
	t.Helper()
	d, n := drawnDrive(r, m), r.Intn(8)
	k, l := 0, 0
	var e, f api.Errno
	name := ""
	switch letter := letters[r.Intn(len(letters))]; {
	case letter == 'u' || m.down && r.Intn(2) == 0:
		name, e, f = "P11: Mount", h.Mount(), m.mount()
	case letter == 'w':
		from, bytes := drawn(r, size(m.s))
		name, e, f = "P6, P10: Write", h.Write(from, bytes), m.write(from, bytes)
		spoilBytes(bytes)
	case letter == 'm':
		name = "P7: Merge"
		k, e = h.Merge(d, n)
		l, f = m.merge(d, n)
	case letter == 'f' && mayFail(r, m):
		name, e, f = "P8: Fail", h.Fail(d), m.fail(d)
	case letter == 'f' || letter == 'r':
		name, e, f = "P8: Replace", h.Replace(d), m.replace(d)
	case letter == 'b':
		name = "P9: Rebuild"
		k, e = h.Rebuild(d, n)
		l, f = m.rebuild(d, n)
	case letter == 's':
		n = drawnRow(r, m)
		name = "P13: Scrub"
		k, e = h.Scrub(n)
		l, f = m.scrub(n)
	case letter == 'c':
		n = drawnRow(r, m)
		at, by := drawnByte(r)
		name, e, f = "P12: Corrupt", h.Corrupt(d, n, at, by), m.corrupt(d, n, at, by)
	default:
		n = drawnBreak(r)
		name, e, f = "P10: Break", h.Break(n), m.breakOff(n)
	}
	if k != l || e != f {
		t.Fatalf("%s: shape %+v, drive %d, number %d: %d, %d, want %d, %d", name, m.s, d, n, k, e, l, f)
	}
	if m.down {
		wantDown(t, h)
		return
	}
	wantState(t, h, m.s, m.look(), "after "+name)
}

func drawnCalls(t *testing.T, letters string, calls int) {
	r := rand.New(rand.NewSource(7))
	for _, s := range every() {
		h := begin(t, s.Data, s.Parity, s.Rows, s.Room)
		m := &model{s: s, bytes: make([]byte, size(s))}
		for range calls {
			drawnCall(t, r, h, m, letters)
		}
	}
}

func TestDrawnCallsOnLiveDrives(t *testing.T) { drawnCalls(t, live, 40) }

func TestDrawnCallsOfLostDrives(t *testing.T) { drawnCalls(t, live+lost, 150) }

func TestDrawnCallsThatGoDown(t *testing.T) { drawnCalls(t, live+lost+down, 200) }

func TestDrawnCallsOfBadBytes(t *testing.T) { drawnCalls(t, live+bad, 100) }

func TestDrawnCalls(t *testing.T) { drawnCalls(t, live+lost+down+bad, 300) }
