// Package field: sums, products and quotients of the numbers 0 to 255, and of cells byte by byte.
package field

import "hoard/api"

// Mul multiplies a and b.
func Mul(a uint8, b uint8) uint8 {
	sum := uint8(0)
	for b > 0 {
		if b%2 == 1 {
			sum ^= a
		}
		a = twice(a)
		b /= 2
	}
	return sum
}

// Div divides a by b. There is no quotient, and the answer is 0, if b is 0.
func Div(a uint8, b uint8) uint8 {
	// b to the power of 255 is 1, so that to divide by b is to multiply with
	// b to the power of 254, and 254 is 2 + 4 + 8 + 16 + 32 + 64 + 128.
	power := b
	for i := 0; i < 7; i++ {
		power = Mul(power, power)
		a = Mul(a, power)
	}
	return a
}

// Add gives the sum of two cells.
func Add(a api.Cell, b api.Cell) api.Cell {
	for i := 0; i < api.Block; i++ {
		a[i] ^= b[i]
	}
	return a
}

// Scale gives n times a cell.
func Scale(n uint8, c api.Cell) api.Cell {
	for i := 0; i < api.Block; i++ {
		c[i] = Mul(n, c[i])
	}
	return c
}

func twice(a uint8) uint8 {
	n := int(a) * 2
	if n > 255 {
		n ^= 285
	}
	return uint8(n)
}
