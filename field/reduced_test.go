package field

import "testing"

// remains divides the product of a polynomial with the power 8 by 0x11d, the highest power first.
func remains(high int) byte {
	rest := high << 8
	for i := 15; i >= 8; i-- {
		if rest>>i&1 == 1 {
			rest ^= 0x11d << (i - 8)
		}
	}
	return byte(rest)
}

func TestReducedAndRemainderAreTheSame(t *testing.T) {
	for high := range reduced {
		want := remains(high)
		if reduced[high] != want || remainder(uint16(high)) != want {
			t.Errorf("%d: reduced has %d, remainder gives %d, not %d", high, reduced[high], remainder(uint16(high)), want)
		}
	}
}

// P1.1 to P1.3 do not depend on what start-up code has made.
func TestNoResultDependsOnReduced(t *testing.T) {
	kept := reduced
	defer func() { reduced = kept }()
	before := results()
	for high := range reduced {
		reduced[high] ^= byte(high + 1)
	}
	for i, after := range results() {
		if after != before[i] {
			t.Fatalf("result %d is %d with another table, and %d with its own", i, after, before[i])
		}
	}
}

// results has a result of each function that multiplies, for all pairs of elements.
func results() []byte {
	var l []byte
	for a := range 256 {
		inverse, _ := Inverse(byte(a))
		l = append(l, inverse)
		for b := range 256 {
			quotient, _ := Div(byte(a), byte(b))
			value, _ := Interpolate([]byte{1, 2, 255}, []byte{byte(a), 7, byte(b)}, 200)
			l = append(l, Mul(byte(a), byte(b)), Pow(byte(a), b-128), quotient, value, Eval([]byte{5, byte(a), 9}, byte(b)))
		}
	}
	return l
}
