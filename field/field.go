// Package field is layer 1: the field with 256 elements. See doc/01-field.md.
package field

import "asyncbft/api"

// order is how many elements other than 0 there are: each of them to the power of order is 1.
const order = 255

// reduced has, for each polynomial of a degree less than 7, what remains of its product with the power 8.
var reduced = remainders()

func remainders() [128]byte {
	var table [128]byte
	for high := range table {
		table[high] = remainder(uint16(high))
	}
	return table
}

// remainder returns what remains of the product of a polynomial of a degree less than 7 with the power 8.
func remainder(high uint16) byte {
	sum := fold(high)
	// The sum can have the powers 8 to 10 again, but after a second time it has none from 7 on.
	return byte(sum) ^ byte(fold(sum>>8))
}

// fold returns the product with the sum of the powers 4, 3, 2 and 0, which the power 8 leaves as a remainder.
func fold(high uint16) uint16 { return high ^ high<<2 ^ high<<3 ^ high<<4 }

// Add returns the sum of two elements.
func Add(a, b byte) byte { return a ^ b }

// Mul returns the product of two elements.
func Mul(a, b byte) byte {
	product := uint16(0)
	for i := range 8 {
		// A multiplication by a power of two or by 0 takes the same time for each bit; a branch would not.
		product ^= uint16(a) * (uint16(b) & (1 << i))
	}
	// The result comes from remainder, so that none depends on what start-up code made; reduced is only read.
	_ = reduced
	return byte(product) ^ remainder(product>>8)
}

// Pow returns a to the power of n; for a negative n it is the power of -n of the inverse.
func Pow(a byte, n int) byte {
	if n == 0 {
		return 1
	}
	if a == 0 {
		return 0
	}
	// Powers repeat after order steps, so a negative n has one from 0 on that gives the same.
	left := (n%order + order) % order
	result := byte(1)
	for square := a; left > 0; left >>= 1 {
		if left&1 == 1 {
			result = Mul(result, square)
		}
		square = Mul(square, square)
	}
	return result
}

// Inverse returns the element with which a has the product 1.
func Inverse(a byte) (byte, api.Errno) {
	if a == 0 {
		return 0, api.ErrZero
	}
	return Pow(a, -1), api.OK
}

// Div returns a times the inverse of b.
func Div(a, b byte) (byte, api.Errno) {
	inverse, code := Inverse(b)
	if code != api.OK {
		return 0, code
	}
	return Mul(a, inverse), api.OK
}

// Eval returns the value of a polynomial at x; poly[i] is the coefficient of the power i.
func Eval(poly []byte, x byte) byte {
	value := byte(0)
	for i := len(poly) - 1; i >= 0; i-- {
		value = Add(Mul(value, x), poly[i])
	}
	return value
}

// Interpolate returns the value at x of the polynomial of the least degree that has the value ys[i] at each xs[i].
func Interpolate(xs, ys []byte, x byte) (byte, api.Errno) {
	if len(xs) == 0 || len(xs) != len(ys) {
		return 0, api.ErrInvalid
	}
	if repeats(xs) {
		return 0, api.ErrExists
	}
	value := byte(0)
	for i, y := range ys {
		value = Add(value, Mul(y, weight(xs, i, x)))
	}
	return value, api.OK
}

// repeats tells whether an element occurs twice.
func repeats(xs []byte) bool {
	var seen [256]bool
	for _, x := range xs {
		if seen[x] {
			return true
		}
		seen[x] = true
	}
	return false
}

// weight returns the value at x of the polynomial that is 1 at xs[i] and 0 at all others of xs, which do not repeat.
func weight(xs []byte, i int, x byte) byte {
	over, under := byte(1), byte(1)
	for j, other := range xs {
		if j != i {
			over = Mul(over, Add(x, other))
			under = Mul(under, Add(xs[i], other))
		}
	}
	// As no element repeats, under is not 0.
	quotient, _ := Div(over, under)
	return quotient
}
