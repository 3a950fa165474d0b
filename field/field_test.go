package field_test

import (
	"math"
	"slices"
	"testing"

	"asyncbft/api"
	"asyncbft/field"
)

// product multiplies as at school: all partial products first, then the division by 0x11d.
func product(a, b int) byte {
	sum := 0
	for i := range 8 {
		if b>>i&1 == 1 {
			sum ^= a << i
		}
	}
	for i := 14; i >= 8; i-- {
		if sum>>i&1 == 1 {
			sum ^= 0x11d << (i - 8)
		}
	}
	return byte(sum)
}

// value adds up all terms of a polynomial at x, without Pow and Eval.
func value(poly []byte, x byte) byte {
	sum, power := byte(0), byte(1)
	for _, c := range poly {
		sum ^= product(int(c), int(power))
		power = product(int(power), int(x))
	}
	return sum
}

func inverse(t *testing.T, a byte) byte {
	t.Helper()
	for b := range 256 {
		if product(int(a), b) == 1 {
			return byte(b)
		}
	}
	t.Fatalf("%d has no inverse", a)
	return 0
}

// P1.1

func TestAddIsExclusiveOr(t *testing.T) {
	for a := range 256 {
		for b := range 256 {
			if got := field.Add(byte(a), byte(b)); got != byte(a)^byte(b) {
				t.Fatalf("Add(%d, %d) = %d", a, b, got)
			}
		}
	}
}

func TestMulIsTheProduct(t *testing.T) {
	for a := range 256 {
		for b := range 256 {
			if got, want := field.Mul(byte(a), byte(b)), product(a, b); got != want {
				t.Fatalf("Mul(%d, %d) = %d, not %d", a, b, got, want)
			}
		}
	}
	if got := field.Mul(2, 128); got != 29 {
		t.Errorf("Mul(2, 128) = %d", got)
	}
}

func TestPowOfPositiveNumbers(t *testing.T) {
	for a := range 256 {
		want := byte(1)
		for n := range 520 {
			if got := field.Pow(byte(a), n); got != want {
				t.Fatalf("Pow(%d, %d) = %d, not %d", a, n, got, want)
			}
			want = product(int(want), a)
		}
	}
}

func TestPowOfNegativeNumbers(t *testing.T) {
	for a := 1; a < 256; a++ {
		b := inverse(t, byte(a))
		want := byte(1)
		for n := range 520 {
			if got := field.Pow(byte(a), -n); got != want {
				t.Fatalf("Pow(%d, %d) = %d, not %d", a, -n, got, want)
			}
			want = product(int(want), int(b))
		}
	}
}

func TestPowOfZero(t *testing.T) {
	if got := field.Pow(0, 0); got != 1 {
		t.Errorf("Pow(0, 0) = %d", got)
	}
	for _, n := range []int{1, 2, 254, 255, 256, 510, -1, -2, -254, -255, -256, math.MaxInt, math.MinInt} {
		if got := field.Pow(0, n); got != 0 {
			t.Errorf("Pow(0, %d) = %d", n, got)
		}
	}
}

// The greatest number is 127 more than a multiple of 255, the least one 128 less than a multiple.
func TestPowOfExtremeNumbers(t *testing.T) {
	for a := 1; a < 256; a++ {
		high, low := byte(1), byte(1)
		b := inverse(t, byte(a))
		for range 127 {
			high = product(int(high), a)
		}
		for range 128 {
			low = product(int(low), int(b))
		}
		if got := field.Pow(byte(a), math.MaxInt64); got != high {
			t.Fatalf("Pow(%d, greatest) = %d, not %d", a, got, high)
		}
		if got := field.Pow(byte(a), math.MinInt64); got != low {
			t.Fatalf("Pow(%d, least) = %d, not %d", a, got, low)
		}
	}
}

func TestEveryElementIsAPowerOfTwo(t *testing.T) {
	seen := map[byte]bool{}
	for n := range 255 {
		seen[field.Pow(2, n)] = true
	}
	if len(seen) != 255 || seen[0] {
		t.Errorf("%d powers of 2, 0 among them: %v", len(seen), seen[0])
	}
}

func TestLawsOfTheField(t *testing.T) {
	for a := range 256 {
		for b := range 256 {
			for _, c := range []byte{0, 1, 2, 29, 142, 255} {
				x, y := byte(a), byte(b)
				if field.Mul(field.Mul(x, y), c) != field.Mul(x, field.Mul(y, c)) {
					t.Fatalf("%d, %d, %d are not associative", x, y, c)
				}
				if field.Mul(field.Add(x, y), c) != field.Add(field.Mul(x, c), field.Mul(y, c)) {
					t.Fatalf("%d, %d, %d are not distributive", x, y, c)
				}
			}
		}
	}
}

// P1.2

func TestInverseHasTheProductOne(t *testing.T) {
	for a := 1; a < 256; a++ {
		b, code := field.Inverse(byte(a))
		if code != api.OK || product(a, int(b)) != 1 {
			t.Errorf("Inverse(%d) = %d, %d", a, b, code)
		}
	}
	if b, code := field.Inverse(2); b != 142 || code != api.OK {
		t.Errorf("Inverse(2) = %d, %d", b, code)
	}
}

func TestZeroHasNoInverse(t *testing.T) {
	if b, code := field.Inverse(0); b != 0 || code != api.ErrZero {
		t.Errorf("Inverse(0) = %d, %d", b, code)
	}
}

func TestDivUndoesMul(t *testing.T) {
	for a := range 256 {
		for b := 1; b < 256; b++ {
			if got, code := field.Div(product(a, b), byte(b)); got != byte(a) || code != api.OK {
				t.Fatalf("Div(%d times %d, %d) = %d, %d", a, b, b, got, code)
			}
		}
	}
}

func TestDivByZero(t *testing.T) {
	for a := range 256 {
		if got, code := field.Div(byte(a), 0); got != 0 || code != api.ErrZero {
			t.Errorf("Div(%d, 0) = %d, %d", a, got, code)
		}
	}
}

// P1.3

func TestEvalIsTheValueOfAPolynomial(t *testing.T) {
	for _, poly := range [][]byte{{0}, {5}, {0, 1}, {7, 0, 200, 31}, {0, 0, 0, 255}, {1, 2, 3, 0, 0}, letters(300)} {
		for x := range 256 {
			if got, want := field.Eval(poly, byte(x)), value(poly, byte(x)); got != want {
				t.Fatalf("Eval(%v, %d) = %d, not %d", poly, x, got, want)
			}
		}
	}
}

func TestEvalOfAnEmptyPolynomial(t *testing.T) {
	for x := range 256 {
		if field.Eval(nil, byte(x)) != 0 || field.Eval([]byte{}, byte(x)) != 0 {
			t.Errorf("an empty polynomial is not 0 at %d", x)
		}
	}
}

// letters returns n bytes that follow no short rule.
func letters(n int) []byte {
	var l []byte
	for i := range n {
		l = append(l, byte(i*i*7+i*31+i>>3+11))
	}
	return l
}

// points returns n elements, each once, in no simple order.
func points(n int) []byte {
	var l []byte
	for i := range n {
		l = append(l, byte(i*91+200))
	}
	return l
}

func TestInterpolateGivesThePolynomial(t *testing.T) {
	for _, n := range []int{1, 2, 3, 4, 7, 16, 100, 255, 256} {
		xs := points(n)
		for _, degree := range []int{n - 1, n / 2, 0} {
			poly := letters(degree + 1)
			ys := make([]byte, n)
			for i, x := range xs {
				ys[i] = value(poly, x)
			}
			for x := 0; x < 256; x += 5 {
				got, code := field.Interpolate(xs, ys, byte(x))
				if want := value(poly, byte(x)); got != want || code != api.OK {
					t.Fatalf("%d points, degree %d, at %d: %d, %d, not %d", n, degree, x, got, code, want)
				}
			}
		}
	}
}

func TestInterpolateHasTheGivenValues(t *testing.T) {
	xs, ys := []byte{9, 0, 255, 77, 1}, []byte{3, 3, 0, 255, 128}
	for i, x := range xs {
		if got, code := field.Interpolate(xs, ys, x); got != ys[i] || code != api.OK {
			t.Errorf("at %d: %d, %d, not %d", x, got, code, ys[i])
		}
	}
}

func TestInterpolateOfOnePointIsConstant(t *testing.T) {
	for x := range 256 {
		if got, code := field.Interpolate([]byte{4}, []byte{9}, byte(x)); got != 9 || code != api.OK {
			t.Errorf("at %d: %d, %d", x, got, code)
		}
	}
}

func TestErrorsOfInterpolate(t *testing.T) {
	for _, c := range []struct {
		name   string
		xs, ys []byte
		want   api.Errno
	}{
		{"both nil", nil, nil, api.ErrInvalid},
		{"both empty", []byte{}, []byte{}, api.ErrInvalid},
		{"no xs", nil, []byte{1}, api.ErrInvalid},
		{"no ys", []byte{1}, nil, api.ErrInvalid},
		{"fewer ys", []byte{1, 2, 3}, []byte{1, 2}, api.ErrInvalid},
		{"more ys", []byte{1, 2}, []byte{1, 2, 3}, api.ErrInvalid},
		{"twice, and fewer ys", []byte{1, 1, 2}, []byte{5, 5}, api.ErrInvalid},
		{"twice, and more ys", []byte{1, 1}, []byte{5, 5, 5}, api.ErrInvalid},
		{"twice with one value", []byte{1, 2, 1}, []byte{2, 3, 2}, api.ErrExists},
		{"twice with two values", []byte{1, 1}, []byte{2, 3}, api.ErrExists},
		{"0 twice", []byte{0, 7, 8, 0}, []byte{1, 2, 3, 4}, api.ErrExists},
		{"255 twice", []byte{255, 255}, []byte{0, 0}, api.ErrExists},
		{"more points than elements", letters(257), letters(257), api.ErrExists},
		{"many points", make([]byte, 1<<10), make([]byte, 1<<10), api.ErrExists},
	} {
		for _, x := range []byte{0, 1, 200} {
			if got, code := field.Interpolate(c.xs, c.ys, x); got != 0 || code != c.want {
				t.Errorf("%s: %d, %d, not %d", c.name, got, code, c.want)
			}
		}
	}
}

// Rule 1 of DOC.md.
func TestArgumentsStayAsTheyAre(t *testing.T) {
	whole := letters(40)
	xs, ys, poly := points(9), whole[:9], whole[:20]
	xsBefore, before := slices.Clone(xs), slices.Clone(whole)
	first, _ := field.Interpolate(xs, ys, 99)
	second, _ := field.Interpolate(xs, ys, 99)
	if first != second || field.Eval(poly, 99) != field.Eval(poly, 99) {
		t.Error("the same call has two results")
	}
	if !slices.Equal(xs, xsBefore) || !slices.Equal(whole, before) {
		t.Error("an argument was changed")
	}
}
