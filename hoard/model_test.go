package hoard_test

import (
	"math/rand"
	"testing"

	"hoard/api"
)

// model is a hoard that keeps all records that ever were, and how many of them are merged.
type model struct {
	s      api.Shape
	bytes  []byte
	steps  int
	all    [2][]api.Record
	merged [2]int
}

// power is b times 2 to the power of c.
func power(b byte, c int) byte {
	n := int(b)
	for range c {
		n <<= 1
		if n > 255 {
			n ^= 285
		}
	}
	return byte(n)
}

func (m *model) write(from int, data []byte) {
	after := append([]byte{}, m.bytes...)
	copy(after[from:], data)
	for b := range len(after) / 4 {
		old, now := [4]byte(m.bytes[b*4:]), [4]byte(after[b*4:])
		if old == now {
			continue
		}
		for p := range m.s.Parity {
			r := api.Record{Row: b / m.s.Data}
			for i := range 4 {
				r.Bytes[i] = power(old[i]^now[i], p*(b%m.s.Data))
			}
			m.all[p] = append(m.all[p], r)
			m.merged[p] = max(m.merged[p], len(m.all[p])-m.s.Room)
		}
		m.steps += 3 + m.s.Parity
	}
	m.bytes = after
}

func (m *model) merge(p, n int) int {
	before := m.merged[p]
	m.merged[p] = min(before+n, len(m.all[p]))
	return m.merged[p] - before
}

func (m *model) look() state {
	x := state{Bytes: m.bytes, Steps: m.steps}
	for d := range m.s.Data {
		x.Drives = append(x.Drives, api.Drive{})
		column := make([]api.Cell, m.s.Rows)
		for row := range column {
			copy(column[row][:], m.bytes[(row*m.s.Data+d)*4:])
		}
		x.Cells = append(x.Cells, column)
	}
	for p := range m.s.Parity {
		left := m.all[p][m.merged[p]:]
		column := make([]api.Cell, m.s.Rows)
		for _, r := range m.all[p][:m.merged[p]] {
			for i, b := range r.Bytes {
				column[r.Row][i] ^= b
			}
		}
		x.Drives = append(x.Drives, api.Drive{Records: len(left)})
		x.Cells = append(x.Cells, column)
		x.Logs = append(x.Logs, append([]api.Record{}, left...))
	}
	return x
}

// wantEquations: the value of each parity cell is the sum that its equation tells.
func wantEquations(t *testing.T, s api.Shape, x state) {
	t.Helper()
	for p := range s.Parity {
		for row := range s.Rows {
			sum := x.Cells[s.Data+p][row]
			for _, r := range x.Logs[p] {
				for i := range sum {
					if r.Row == row {
						sum[i] ^= r.Bytes[i]
					}
				}
			}
			for c := range s.Data {
				for i := range sum {
					sum[i] ^= power(x.Cells[c][row][i], p*c)
				}
			}
			if sum != (api.Cell{}) {
				t.Fatalf("P6, P7: shape %+v: row %d, parity %d: off by %v", s, row, p, sum)
			}
		}
	}
}

// drawn gives some bytes from a place on, more often few than many, and often nought.
func drawn(r *rand.Rand, all int) (int, []byte) {
	from := r.Intn(all + 1)
	n := r.Intn(all - from + 1)
	if r.Intn(3) > 0 {
		n = min(n, 6)
	}
	l := make([]byte, n)
	if r.Intn(4) > 0 {
		r.Read(l)
	}
	return from, l
}

func TestDrawnCalls(t *testing.T) {
	r := rand.New(rand.NewSource(7))
	for _, s := range every() {
		h := begin(t, s.Data, s.Parity, s.Rows, s.Room)
		m := &model{s: s, bytes: make([]byte, size(s))}
		for range 40 {
			if r.Intn(5) == 0 {
				p, n := r.Intn(s.Parity), 1+r.Intn(10)
				want := m.merge(p, n)
				wantMerge(t, h, s.Data+p, n, want)
			} else {
				from, l := drawn(r, size(s))
				m.write(from, l)
				write(t, h, from, l...)
			}
			x := m.look()
			wantState(t, h, s, x, "P4 to P7")
			wantEquations(t, s, x)
		}
	}
}
