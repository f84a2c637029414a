package hoard_test

import "hoard/api"

// taken is what a change by x of a byte of the drive d changes in the equation of parity drive p, numbered from 0 on.
func (m *model) taken(p, d int, x byte) byte {
	switch {
	case d < m.s.Data:
		return power(x, p*d)
	case d == m.s.Data+p:
		return x
	}
	return 0
}

// add adds x to a byte of a cell, and to what the equations of its row are off by.
func (m *model) add(d, row, at int, x byte) {
	if d < m.s.Data {
		m.bytes[(row*m.s.Data+d)*4+at] ^= x
	}
	for p := range m.s.Parity {
		m.off[p][row][at] ^= m.taken(p, d, x)
	}
}

// settle lets the data cells of the row that are missing hold what makes the
// equations of the first available parity drives hold; what is gone stays what
// it was, unseen.
func (m *model) settle(row int) {
	var missing, asked []int
	for d := range m.s.Data {
		if !m.has(d, row) {
			missing = append(missing, d)
		}
	}
	for p := range m.s.Parity {
		if m.has(m.s.Data+p, row) && len(asked) < len(missing) {
			asked = append(asked, p)
		}
	}
	if len(missing) == 0 || len(asked) < len(missing) {
		return
	}
	for at := range 4 {
		for i, x := range m.fitting(row, at, missing, asked) {
			m.add(missing[i], row, at, x)
		}
	}
}

// fitting tries out by what a byte of the drives, of which there are one or
// two, must change so that the asked equations hold; nil, if they cannot.
func (m *model) fitting(row, at int, drives, asked []int) []byte {
	for x := range 256 {
		for y := range 256 {
			if len(drives) == 1 && y > 0 {
				break
			}
			fits := true
			for _, p := range asked {
				sum := m.off[p][row][at] ^ m.taken(p, drives[0], byte(x))
				if len(drives) == 2 {
					sum ^= m.taken(p, drives[1], byte(y))
				}
				fits = fits && sum == 0
			}
			if fits {
				return []byte{byte(x), byte(y)}[:len(drives)]
			}
		}
	}
	return nil
}

func (m *model) corrupt(d, row, at int, by byte) api.Errno {
	switch {
	case m.down:
		return api.ErrDown
	case d < 0 || d >= m.drives():
		return api.ErrDrive
	case row < 0 || row >= m.s.Rows || at < 0 || at >= 4:
		return api.ErrArg
	case !m.has(d, row):
		return api.ErrState
	}
	m.add(d, row, at, by)
	m.settle(row)
	return api.OK
}

func (m *model) scrub(row int) (int, api.Errno) {
	switch {
	case m.down:
		return 0, api.ErrDown
	case row < 0 || row >= m.s.Rows:
		return 0, api.ErrArg
	}
	holds := true
	var all []int
	for d := range m.drives() {
		if !m.has(d, row) {
			return 0, api.ErrState
		}
	}
	for p := range m.s.Parity {
		all = append(all, p)
		holds = holds && m.off[p][row] == api.Cell{}
	}
	if holds {
		return -1, api.OK
	}
	var explaining []int
	var changes [4]byte
	for d := range m.drives() {
		var l []byte
		for at := range 4 {
			l = append(l, m.fitting(row, at, []int{d}, all)...)
		}
		if len(l) == 4 {
			explaining, changes = append(explaining, d), [4]byte(l)
		}
	}
	if len(explaining) != 1 {
		return 0, api.ErrBad
	}
	for at, x := range changes {
		m.add(explaining[0], row, at, x)
	}
	return explaining[0], api.OK
}
