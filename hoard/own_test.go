package hoard_test

import (
	"slices"
	"testing"

	"hoard/api"
	"hoard/hoard"
)

func TestListHandedInStaysAsItIs(t *testing.T) {
	h := begin(t, 2, 2, 2, 2)
	mine := []byte{1, 2, 3, 4, 5, 6, 7, 8, 9}
	write(t, h, 3, mine[:6]...)
	write(t, h, 15)
	if e := h.Write(3, mine[:6:9]); e != api.OK {
		t.Fatalf("P6: Write = %d", e)
	}
	if e := h.Write(14, mine[:6]); e != api.ErrRange {
		t.Fatalf("P6: Write = %d", e)
	}
	if !slices.Equal(mine, []byte{1, 2, 3, 4, 5, 6, 7, 8, 9}) {
		t.Errorf("P2: what was handed in has become %v", mine)
	}
}

func TestListHandedInIsNotKept(t *testing.T) {
	s := api.Shape{Data: 2, Parity: 2, Rows: 2, Room: 8}
	h := begin(t, 2, 2, 2, 8)
	mine := []byte{1, 2, 3, 4, 5, 6, 7, 8}
	if e := h.Write(0, mine); e != api.OK {
		t.Fatalf("P6: Write = %d", e)
	}
	before := look(t, h, s)
	for i := range mine {
		mine[i] = 99
	}
	wantState(t, h, s, before, "P2: after a change of what was handed in")
}

// spoilBytes writes into a list and its spare room.
func spoilBytes(l []byte) {
	l = l[:cap(l)]
	for i := range l {
		l[i] ^= 255
	}
}

func spoilRecords(l []api.Record) {
	l = l[:cap(l)]
	for i := range l {
		l[i] = record(1, 200, 200, 200, 200)
	}
}

func TestListsThatComeOutAreTheCallers(t *testing.T) {
	s := api.Shape{Data: 2, Parity: 2, Rows: 2, Room: 3}
	h := begin(t, 2, 2, 2, 3)
	for i := range 9 {
		write(t, h, i, byte(i+1), byte(i+2))
		before := look(t, h, s)
		for n := range size(s) {
			l, _ := h.Read(0, n)
			k, _ := h.Read(0, n)
			spoilBytes(l)
			if !slices.Equal(k, before.Bytes[:n]) {
				t.Fatalf("P2: two Reads share memory: %v", k)
			}
		}
		for d := 2; d < 4; d++ {
			l, _ := h.Log(d)
			k, _ := h.Log(d)
			spoilRecords(l)
			if !slices.Equal(k, before.Logs[d-2]) {
				t.Fatalf("P2: two Logs share memory: %v", k)
			}
		}
		wantState(t, h, s, before, "P2: after a change of what came out")
	}
}

// TestListsThatCameOutStay: what the hoard does later does not write into them.
func TestListsThatCameOutStay(t *testing.T) {
	h := begin(t, 1, 1, 1, 2)
	write(t, h, 0, 1)
	write(t, h, 1, 2)
	bytes, _ := h.Read(0, 4)
	log, _ := h.Log(1)
	write(t, h, 0, 9, 9, 9, 9)
	wantMerge(t, h, 1, 1, 1)
	write(t, h, 0, 7)
	if !slices.Equal(bytes, []byte{1, 2, 0, 0}) {
		t.Errorf("P2: what Read gave has become %v", bytes)
	}
	if !slices.Equal(log, []api.Record{record(0, 1, 0, 0, 0), record(0, 0, 2, 0, 0)}) {
		t.Errorf("P2: what Log gave has become %v", log)
	}
}

func TestHoardsDoNotChangeOneAnother(t *testing.T) {
	s := api.Shape{Data: 3, Parity: 2, Rows: 3, Room: 2}
	var all []*hoard.Hoard
	var states []state
	for i := range 4 {
		h := begin(t, 3, 2, 3, 2)
		for k := range i {
			write(t, h, k*5, byte(i), byte(k+1), 3, 4, 5)
		}
		all = append(all, h)
		states = append(states, look(t, h, s))
	}
	for i, h := range all {
		write(t, h, 0, 50, 60, 70, 80, 90, 100)
		wantMerge(t, h, 3, 1, 1)
		for k := i + 1; k < len(all); k++ {
			wantState(t, all[k], s, states[k], "P2: another hoard was written")
		}
	}
}
