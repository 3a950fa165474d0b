package matrix_test

import (
	"math"
	"slices"
	"testing"

	"asyncbft/api"
	"asyncbft/field"
	"asyncbft/matrix"
)

func same(a, b [][]byte) bool {
	return slices.EqualFunc(a, b, func(x, y []byte) bool { return slices.Equal(x, y) })
}

func clone(m [][]byte) [][]byte {
	var l [][]byte
	for _, row := range m {
		l = append(l, slices.Clone(row))
	}
	return l
}

// mixed returns a matrix with elements that follow no short rule; it differs for each seed.
func mixed(rows, columns, seed int) [][]byte {
	m := make([][]byte, rows)
	state := uint32(seed*1000 + rows*20 + columns)
	for i := range m {
		m[i] = make([]byte, columns)
		for j := range m[i] {
			state = state*1664525 + 1013904223
			m[i][j] = byte(state >> 24)
		}
	}
	return m
}

// zeros returns a matrix with the given number of rows, all of the given length.
func zeros(rows, columns int) [][]byte {
	m := make([][]byte, rows)
	for i := range m {
		m[i] = make([]byte, columns)
	}
	return m
}

// one returns the identity, made apart from the package.
func one(n int) [][]byte {
	m := zeros(n, n)
	for i := range m {
		m[i][i] = 1
	}
	return m
}

// product adds the products of each column of a with each row of b, all of the same size as the result.
func product(a, b [][]byte) [][]byte {
	m := zeros(len(a), len(b[0]))
	for k := range b {
		for i := range a {
			for j := range b[k] {
				m[i][j] ^= field.Mul(a[i][k], b[k][j])
			}
		}
	}
	return m
}

// determinant goes by the first row. Signs do not matter, since each element is its own negative.
func determinant(m [][]byte) byte {
	if len(m) == 0 {
		return 1
	}
	total := byte(0)
	for j, x := range m[0] {
		var rest [][]byte
		for _, row := range m[1:] {
			rest = append(rest, slices.Concat(row[:j], row[j+1:]))
		}
		total ^= field.Mul(x, determinant(rest))
	}
	return total
}

// invalid has matrices that are not valid.
func invalid() map[string][][]byte {
	long := zeros(3, 16)
	long[1] = make([]byte, 17)
	late := zeros(16, 16)
	late[15] = late[15][:15]
	return map[string][][]byte{
		"nil":                           nil,
		"no rows":                       {},
		"an empty row":                  {{}},
		"a nil row":                     {nil},
		"only empty rows":               zeros(16, 0),
		"a longer row":                  {{1}, {1, 2}},
		"a shorter row":                 {{1, 2}, {1}},
		"an empty row after others":     {{1}, {2}, {}},
		"an empty row before others":    {{}, {1}},
		"17 rows":                       zeros(17, 1),
		"17 rows of 17":                 zeros(17, 17),
		"17 rows of 0":                  zeros(17, 0),
		"a row of 17":                   zeros(1, 17),
		"16 rows of 17":                 zeros(16, 17),
		"a row of 17 among those of 16": long,
		"a last row that is shorter":    late,
		"very many rows":                make([][]byte, 1<<16),
		"a very long row":               zeros(1, 1<<16),
	}
}

// outside has numbers that are not from 1 to MaxSide.
var outside = []int{0, -1, -16, 17, 18, 256, 257, 272, math.MaxInt, math.MinInt}

// P2.1

func TestValidMatrices(t *testing.T) {
	for rows := 1; rows <= 16; rows++ {
		for columns := 1; columns <= 16; columns++ {
			if !matrix.Valid(mixed(rows, columns, 1)) || !matrix.Valid(zeros(rows, columns)) {
				t.Errorf("%d rows of %d are not valid", rows, columns)
			}
		}
	}
}

func TestInvalidMatrices(t *testing.T) {
	for name, m := range invalid() {
		if matrix.Valid(m) {
			t.Errorf("valid: %s", name)
		}
	}
	for rows := 2; rows <= 16; rows++ {
		for bad := range rows {
			m := mixed(rows, 5, 1)
			m[bad] = append(m[bad], 1)
			n := mixed(rows, 5, 1)
			n[bad] = n[bad][:4]
			if matrix.Valid(m) || matrix.Valid(n) {
				t.Errorf("%d rows are valid though row %d has another length", rows, bad)
			}
		}
	}
}

func TestIdentity(t *testing.T) {
	for n := 1; n <= 16; n++ {
		if m, code := matrix.Identity(n); code != api.OK || !same(m, one(n)) {
			t.Errorf("Identity(%d) = %v, %d", n, m, code)
		}
	}
}

func TestPowersAreThePowersOfTheRowNumbers(t *testing.T) {
	for rows := 1; rows <= 16; rows++ {
		for columns := 1; columns <= 16; columns++ {
			want := zeros(rows, columns)
			for i := range rows {
				power := byte(1)
				for j := range columns {
					want[i][j] = power
					power = field.Mul(power, byte(i+1))
				}
			}
			if m, code := matrix.Powers(rows, columns); code != api.OK || !same(m, want) {
				t.Fatalf("Powers(%d, %d) = %v, %d", rows, columns, m, code)
			}
		}
	}
}

func TestNumbersThatAreNoSides(t *testing.T) {
	for _, n := range outside {
		if m, code := matrix.Identity(n); m != nil || code != api.ErrRange {
			t.Errorf("Identity(%d) = %v, %d", n, m, code)
		}
		for _, other := range append([]int{1, 7, 16}, outside...) {
			if m, code := matrix.Powers(n, other); m != nil || code != api.ErrRange {
				t.Errorf("Powers(%d, %d) = %v, %d", n, other, m, code)
			}
			if m, code := matrix.Powers(other, n); m != nil || code != api.ErrRange {
				t.Errorf("Powers(%d, %d) = %v, %d", other, n, m, code)
			}
		}
	}
}

// P2.2

func TestMulIsTheProduct(t *testing.T) {
	sides := []int{1, 2, 3, 7, 15, 16}
	for _, rows := range sides {
		for _, inner := range sides {
			for _, columns := range sides {
				a, b := mixed(rows, inner, 1), mixed(inner, columns, 2)
				if m, code := matrix.Mul(a, b); code != api.OK || !same(m, product(a, b)) {
					t.Fatalf("%d, %d and %d: %v, %d", rows, inner, columns, m, code)
				}
			}
		}
	}
	m, code := matrix.Mul([][]byte{{1, 1}, {1, 2}, {1, 3}}, [][]byte{{5, 0, 1}, {7, 1, 0}})
	if want := [][]byte{{2, 1, 1}, {11, 2, 1}, {12, 3, 1}}; code != api.OK || !same(m, want) {
		t.Errorf("%v, %d, not %v", m, code, want)
	}
}

func TestProductsCanBeBracketed(t *testing.T) {
	a, b, c := mixed(3, 16, 1), mixed(16, 5, 2), mixed(5, 9, 3)
	ab, _ := matrix.Mul(a, b)
	bc, _ := matrix.Mul(b, c)
	left, first := matrix.Mul(ab, c)
	right, second := matrix.Mul(a, bc)
	if first != api.OK || second != api.OK || !same(left, right) {
		t.Errorf("%v, %d and %v, %d", left, first, right, second)
	}
}

func TestIdentityChangesNoMatrix(t *testing.T) {
	m := mixed(4, 11, 1)
	four, _ := matrix.Identity(4)
	eleven, _ := matrix.Identity(11)
	left, first := matrix.Mul(four, m)
	right, second := matrix.Mul(m, eleven)
	if first != api.OK || second != api.OK || !same(left, m) || !same(right, m) {
		t.Errorf("%v, %d and %v, %d", left, first, right, second)
	}
}

func TestApplyIsTheProductWithAColumn(t *testing.T) {
	for rows := 1; rows <= 16; rows++ {
		for columns := 1; columns <= 16; columns++ {
			m, v := mixed(rows, columns, 1), mixed(1, columns, 2)[0]
			want := make([]byte, rows)
			for j, x := range v {
				for i := range m {
					want[i] ^= field.Mul(m[i][j], x)
				}
			}
			if got, code := matrix.Apply(m, v); code != api.OK || !slices.Equal(got, want) {
				t.Fatalf("%d rows of %d: %v, %d, not %v", rows, columns, got, code, want)
			}
		}
	}
	if got, code := matrix.Apply([][]byte{{1, 1}, {1, 2}, {1, 3}}, []byte{5, 7}); code != api.OK || !slices.Equal(got, []byte{2, 11, 12}) {
		t.Errorf("%v, %d", got, code)
	}
}

func TestProductsOfSidesThatDoNotFit(t *testing.T) {
	for inner := 1; inner <= 16; inner++ {
		for rows := 1; rows <= 16; rows++ {
			m, code := matrix.Mul(mixed(3, inner, 1), mixed(rows, 4, 2))
			if fits := inner == rows; fits != (code == api.OK) || !fits && (m != nil || code != api.ErrRange) {
				t.Errorf("Mul of %d columns and %d rows: %v, %d", inner, rows, m, code)
			}
		}
		for _, length := range []int{0, 1, inner - 1, inner, inner + 1, 16, 17, 5000} {
			v, code := matrix.Apply(mixed(3, inner, 1), make([]byte, length))
			if fits := inner == length; fits != (code == api.OK) || !fits && (v != nil || code != api.ErrRange) {
				t.Errorf("Apply of %d columns and %d elements: %v, %d", inner, length, v, code)
			}
		}
	}
	if v, code := matrix.Apply([][]byte{{1}}, nil); v != nil || code != api.ErrRange {
		t.Errorf("Apply to nothing: %v, %d", v, code)
	}
}

// An invalid matrix counts first, whatever the other one has.
func TestProductsOfInvalidMatrices(t *testing.T) {
	for name, m := range invalid() {
		for columns := 1; columns <= 16; columns += 5 {
			good := mixed(2, columns, 1)
			for _, pair := range [][2][][]byte{{m, good}, {good, m}, {m, m}} {
				if got, code := matrix.Mul(pair[0], pair[1]); got != nil || code != api.ErrInvalid {
					t.Errorf("Mul with %s: %v, %d", name, got, code)
				}
			}
		}
		for _, length := range []int{0, 1, 2, 16, 17} {
			if got, code := matrix.Apply(m, make([]byte, length)); got != nil || code != api.ErrInvalid {
				t.Errorf("Apply of %s to %d elements: %v, %d", name, length, got, code)
			}
		}
	}
}

// P2.3

func checkInverse(t *testing.T, m [][]byte) {
	t.Helper()
	x, code := matrix.Invert(m)
	if code != api.OK || len(x) != len(m) || !same(product(m, x), one(len(m))) || !same(product(x, m), one(len(m))) {
		t.Fatalf("Invert(%v) = %v, %d", m, x, code)
	}
}

func checkNoInverse(t *testing.T, m [][]byte) {
	t.Helper()
	if x, code := matrix.Invert(m); x != nil || code != api.ErrZero {
		t.Fatalf("Invert(%v) = %v, %d", m, x, code)
	}
}

func checkByDeterminant(t *testing.T, m [][]byte) {
	t.Helper()
	if determinant(m) == 0 {
		checkNoInverse(t, m)
	} else {
		checkInverse(t, m)
	}
}

func TestInvertOneElement(t *testing.T) {
	checkNoInverse(t, [][]byte{{0}})
	for x := 1; x < 256; x++ {
		checkInverse(t, [][]byte{{byte(x)}})
	}
}

// Small elements make many of the matrices without an inverse, and others with zeros in all places.
func TestInvertSmallMatrices(t *testing.T) {
	for number := range 1 << 12 {
		x := func(i int) byte { return byte(number >> (3 * i) & 7) }
		checkByDeterminant(t, [][]byte{{x(0), x(1)}, {x(2), x(3)}})
	}
	for number := range 1 << 9 {
		m := zeros(3, 3)
		for i := range 9 {
			m[i/3][i%3] = byte(number >> i & 1)
		}
		checkByDeterminant(t, m)
	}
	for number := range 1 << 16 {
		if number%7 != 0 {
			continue
		}
		m := zeros(4, 4)
		for i := range 16 {
			m[i/4][i%4] = byte(number >> i & 1)
		}
		checkByDeterminant(t, m)
	}
}

func TestInvertKnownMatrices(t *testing.T) {
	swap := [][]byte{{0, 1}, {1, 0}}
	if x, code := matrix.Invert(swap); code != api.OK || !same(x, swap) {
		t.Errorf("Invert(%v) = %v, %d", swap, x, code)
	}
	if x, code := matrix.Invert([][]byte{{0, 2}, {1, 0}}); code != api.OK || !same(x, [][]byte{{0, 1}, {142, 0}}) {
		t.Errorf("%v, %d", x, code)
	}
	for n := 1; n <= 16; n++ {
		unit, _ := matrix.Identity(n)
		if x, code := matrix.Invert(unit); code != api.OK || !same(x, one(n)) {
			t.Errorf("Invert of the identity = %v, %d", x, code)
		}
	}
	for _, m := range [][][]byte{{{0, 2, 0}, {3, 0, 0}, {0, 0, 4}}, {{1, 2, 3}, {4, 5, 6}, {7, 9, 8}}} {
		checkInverse(t, m)
	}
	for _, m := range [][][]byte{{{1, 1}, {1, 1}}, {{1, 2}, {2, 4}}, {{1, 2, 3}, {4, 5, 6}, {5, 7, 5}}} {
		checkNoInverse(t, m)
	}
}

// The product of two triangles has an inverse if all elements of their diagonals have one.
func TestInvertLargeMatrices(t *testing.T) {
	for n := 1; n <= 16; n++ {
		for seed := range 20 {
			lower, upper := mixed(n, n, seed), mixed(n, n, seed+100)
			for i := range n {
				for j := range i {
					lower[j][i], upper[i][j] = 0, 0
				}
				lower[i][i], upper[i][i] = lower[i][i]|1, upper[i][i]|1
			}
			m := product(lower, upper)
			slices.Reverse(m)
			checkInverse(t, m)
			zero := seed % n
			upper[zero][zero] = 0
			checkNoInverse(t, product(lower, upper))
		}
	}
}

func TestMatricesWithoutInverse(t *testing.T) {
	for n := 2; n <= 16; n++ {
		checkNoInverse(t, zeros(n, n))
		for i := range n {
			row, column, twice := mixed(n, n, 5), mixed(n, n, 5), mixed(n, n, 5)
			for j := range n {
				row[i][j], column[j][i] = 0, 0
			}
			// A row that is a sum of multiples of two others, or of one if there are no more.
			next, last := twice[(i+1)%n], twice[(i+n-1)%n]
			for j := range n {
				twice[i][j] = field.Mul(next[j], 29) ^ field.Mul(last[j], 7)
			}
			checkNoInverse(t, row)
			checkNoInverse(t, column)
			checkNoInverse(t, twice)
		}
	}
}

func TestAnyRowsOfPowersHaveAnInverse(t *testing.T) {
	for set := 1; set < 1<<16; set++ {
		var rows []int
		for i := range 16 {
			if set>>i&1 == 1 {
				rows = append(rows, i)
			}
		}
		if len(rows) > 3 && len(rows) < 14 {
			continue
		}
		p, _ := matrix.Powers(16, len(rows))
		m := zeros(len(rows), len(rows))
		for at, i := range rows {
			copy(m[at], p[i])
		}
		if set%3 == 0 {
			slices.Reverse(m)
		}
		checkInverse(t, m)
	}
}

func TestInvertOfMatricesThatAreNotSquare(t *testing.T) {
	for rows := 1; rows <= 16; rows++ {
		for columns := 1; columns <= 16; columns++ {
			if rows == columns {
				continue
			}
			for _, m := range [][][]byte{zeros(rows, columns), mixed(rows, columns, 1)} {
				if x, code := matrix.Invert(m); x != nil || code != api.ErrRange {
					t.Errorf("%d rows of %d: %v, %d", rows, columns, x, code)
				}
			}
		}
	}
}

func TestInvertOfInvalidMatrices(t *testing.T) {
	for name, m := range invalid() {
		if x, code := matrix.Invert(m); x != nil || code != api.ErrInvalid {
			t.Errorf("%s: %v, %d", name, x, code)
		}
	}
}

// Rule 1 of DOC.md.

// within returns the matrix as parts of longer rows in a longer list, and a check that all of these are as they were.
func within(m [][]byte) ([][]byte, func() bool) {
	var whole [][]byte
	for i, row := range m {
		whole = append(whole, slices.Concat([]byte{77}, row, []byte{byte(i), 99, 98}))
	}
	whole = append(whole, []byte{5, 6}, []byte{7})
	before := clone(whole)
	var rows [][]byte
	for i, row := range m {
		rows = append(rows, whole[i][1:1+len(row)])
	}
	rows = append(rows, whole[len(m):]...)
	return rows[:len(m)], func() bool {
		return same(whole, before) && same(rows[len(m):], whole[len(m):])
	}
}

func TestArgumentsStayAsTheyAre(t *testing.T) {
	a, unchanged := within([][]byte{{0, 2, 0}, {3, 0, 9}, {7, 1, 4}})
	b, unchangedToo := within(mixed(3, 5, 2))
	v := []byte{1, 2, 3, 4}
	rows := slices.Clone(a)
	var results [][][]byte
	for range 2 {
		p, _ := matrix.Mul(a, b)
		q, _ := matrix.Apply(a, v[:3])
		x, _ := matrix.Invert(a)
		results = append(results, slices.Concat(p, [][]byte{q}, x))
	}
	if !same(results[0], results[1]) {
		t.Error("the same call has two results")
	}
	for i := range a {
		if &a[i][0] != &rows[i][0] {
			t.Error("the rows of an argument were moved")
		}
	}
	if !unchanged() || !unchangedToo() || !slices.Equal(v, []byte{1, 2, 3, 4}) {
		t.Error("an argument was changed")
	}
}

// Rows that are the same memory are as good as others.
func TestRowsOfArgumentsMayShareMemory(t *testing.T) {
	row := []byte{3, 5}
	checkNoInverse(t, [][]byte{row, row})
	all := []byte{1, 2, 5}
	checkInverse(t, [][]byte{all[:2], all[1:]})
	m := [][]byte{all[1:], all[:2]}
	if p, code := matrix.Mul(m, m); code != api.OK || !same(p, product(m, m)) {
		t.Errorf("%v, %d", p, code)
	}
}

// Each result is overwritten, also beyond the length of its rows: nothing else may change by it.
func TestResultsShareNoMemory(t *testing.T) {
	calls := map[string]func() [][]byte{
		"Identity": func() [][]byte { m, _ := matrix.Identity(3); return m },
		"Powers":   func() [][]byte { m, _ := matrix.Powers(3, 4); return m },
	}
	a, b, v := one(3), mixed(3, 4, 1), []byte{9, 8, 7}
	calls["Mul"] = func() [][]byte { m, _ := matrix.Mul(a, b); return m }
	calls["Apply"] = func() [][]byte { m, _ := matrix.Apply(a, v); return [][]byte{m} }
	calls["Invert"] = func() [][]byte { m, _ := matrix.Invert(a); return m }
	for name, call := range calls {
		first, second := call(), call()
		before := clone(second)
		// The last row first: what an earlier one has beyond its length would be a later one.
		for i, row := range slices.Backward(first) {
			for j := range row[:cap(row)] {
				row[:cap(row)][j] = byte(100 + 10*i)
			}
		}
		for i, row := range first {
			for _, x := range row {
				if x != byte(100+10*i) {
					t.Errorf("%s: two rows of a result share memory", name)
				}
			}
		}
		if !same(second, before) || !same(a, one(3)) || !same(b, mixed(3, 4, 1)) || !slices.Equal(v, []byte{9, 8, 7}) {
			t.Errorf("%s: a result shares memory with something else", name)
		}
	}
}
