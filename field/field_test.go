package field

import (
	"testing"

	"hoard/api"
)

// product takes a and b as sums of powers, multiplies them whole, and only then takes away multiples of 285.
func product(a, b int) uint8 {
	n := 0
	for i := range 8 {
		if b&(1<<i) != 0 {
			n ^= a << i
		}
	}
	for i := 14; i >= 8; i-- {
		if n&(1<<i) != 0 {
			n ^= 285 << (i - 8)
		}
	}
	return uint8(n)
}

func TestMulAndDivOfAllNumbers(t *testing.T) {
	for a := range 256 {
		for b := range 256 {
			p := Mul(uint8(a), uint8(b))
			if p != product(a, b) {
				t.Fatalf("P3: Mul(%d, %d) = %d, want %d", a, b, p, product(a, b))
			}
			q := Div(uint8(a), uint8(b))
			if b > 0 && product(int(q), b) != uint8(a) {
				t.Fatalf("P3: Div(%d, %d) = %d", a, b, q)
			}
			if b == 0 && q != 0 {
				t.Fatalf("P3: Div(%d, 0) = %d", a, q)
			}
		}
	}
}

func TestCells(t *testing.T) {
	a, b := api.Cell{0, 255, 128, 7}, api.Cell{9, 255, 1, 3}
	if c := Add(a, b); c != (api.Cell{9, 0, 129, 4}) {
		t.Errorf("Add = %v", c)
	}
	if c := Scale(2, a); c != (api.Cell{0, 227, 29, 14}) {
		t.Errorf("Scale by 2 = %v", c)
	}
	if c := Scale(0, a); c != (api.Cell{}) {
		t.Errorf("Scale by 0 = %v", c)
	}
	if c := Scale(1, a); c != a {
		t.Errorf("Scale by 1 = %v", c)
	}
}
