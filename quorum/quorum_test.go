package quorum_test

import (
	"math"
	"math/big"
	"math/bits"
	"math/rand"
	"slices"
	"testing"

	"asyncbft/api"
	"asyncbft/quorum"
)

// validOf, mostOf and setOf are the definitions of the chapter, apart from the package.
func validOf(c api.Config) bool {
	least := new(big.Int).Mul(big.NewInt(3), big.NewInt(int64(c.F)))
	least.Add(least, big.NewInt(1))
	return c.N >= 1 && c.N <= 16 && c.F >= 0 && big.NewInt(int64(c.N)).Cmp(least) >= 0
}

func mostOf(n int) int {
	if n < 1 {
		return 0
	}
	f := new(big.Int).Sub(big.NewInt(int64(n)), big.NewInt(1))
	return int(f.Div(f, big.NewInt(3)).Int64())
}

func setOf(replicas ...int) int {
	set := 0
	for _, replica := range replicas {
		if replica >= 0 && replica <= 15 {
			set |= []int{1, 2, 4, 8, 16, 32, 64, 128, 256, 512, 1024, 2048, 4096, 8192, 16384, 32768}[replica]
		}
	}
	return set
}

// listOf reads the set as it is written with 64 binary digits, of which the last 16 count.
func listOf(set int) []int {
	var l []int
	for n, replica := uint64(set), 0; replica <= 15; replica++ {
		if n%2 == 1 {
			l = append(l, replica)
		}
		n /= 2
	}
	return l
}

// wild has the ends of the numbers, and numbers of which three times as many, plus 1, are little modulo 2^64.
func wild() []int {
	return []int{
		math.MinInt64, math.MinInt64 + 1, math.MinInt64 + 2, -1 << 62, -6148914691236517205, -6148914691236517206, -1 << 32, math.MinInt32, -1 << 16,
		-65, -64, -63, -33, -32, -31, -17, -16, -15, -4, -3, -2, -1, 0, 1, 2, 3, 4, 5, 6, 7, 14, 15, 16, 17, 18, 31, 32, 33, 47, 48, 62, 63, 64, 65, 127, 128, 256,
		1 << 16, 1<<16 + 1, math.MaxInt32, 1 << 32, 1<<32 + 1, 1<<32 + 15, 3074457345618258602, 3074457345618258603, 1 << 62, 1<<62 + 1,
		6148914691236517204, 6148914691236517205, 6148914691236517206, 6148914691236517207, 6148914691236517210, math.MaxInt64 - 2, math.MaxInt64 - 1, math.MaxInt64,
	}
}

// configs has all valid configurations.
func configs() []api.Config {
	var l []api.Config
	for n := 1; n <= 16; n++ {
		for f := 0; 3*f+1 <= n; f++ {
			l = append(l, api.Config{N: n, F: f})
		}
	}
	return l
}

// extras are bits that do not count, alone and together.
func extras() []int {
	l := []int{0, -1 << 16, math.MinInt64, 0x7fff << 16, 0x5555 << 40}
	for bit := 16; bit < 63; bit++ {
		l = append(l, 1<<bit)
	}
	return l
}

// P10.1

func TestValid(t *testing.T) {
	numbers := wild()
	for n := -40; n <= 40; n++ {
		numbers = append(numbers, n)
	}
	for _, n := range numbers {
		for _, f := range numbers {
			c := api.Config{N: n, F: f}
			if got := quorum.Valid(c); got != validOf(c) {
				t.Errorf("Valid(%+v): %v", c, got)
			}
		}
	}
}

func TestValidAtTheEnds(t *testing.T) {
	// For each N, the greatest F.
	for n, f := range []int{-1, 0, 0, 0, 1, 1, 1, 2, 2, 2, 3, 3, 3, 4, 4, 4, 5, -1, -1, -1} {
		for other := -2; other <= 8; other++ {
			c := api.Config{N: n, F: other}
			if got := quorum.Valid(c); got != (other >= 0 && other <= f) {
				t.Errorf("Valid(%+v): %v", c, got)
			}
		}
	}
	if n := len(configs()); n != 51 {
		t.Errorf("%d valid configurations", n)
	}
}

// Three times F, plus 1, is not N here, but N modulo 2^64.
func TestValidOfGreatF(t *testing.T) {
	for n := -1; n <= 17; n++ {
		for _, f := range wild() {
			if f > 5 && quorum.Valid(api.Config{N: n, F: f}) {
				t.Errorf("with the N %d, the F %d is valid", n, f)
			}
		}
	}
	if f := 6148914691236517206; uint64(f)*3+1 != 3 {
		t.Errorf("the F %d is not one of those that are meant", f)
	}
}

func TestMost(t *testing.T) {
	for n, want := range []int{0, 0, 0, 0, 1, 1, 1, 2, 2, 2, 3, 3, 3, 4, 4, 4, 5, 5, 5, 6, 6} {
		if got := quorum.Most(n); got != want {
			t.Errorf("Most(%d): %d", n, got)
		}
	}
	for n := -1000; n <= 1000; n++ {
		if got := quorum.Most(n); got != mostOf(n) {
			t.Errorf("Most(%d): %d", n, got)
		}
	}
	for _, n := range wild() {
		if got := quorum.Most(n); got != mostOf(n) {
			t.Errorf("Most(%d): %d", n, got)
		}
	}
	if got := quorum.Most(math.MaxInt64); got != 3074457345618258602 {
		t.Errorf("Most of the greatest number: %d", got)
	}
}

func TestMostIsTheGreatestValidF(t *testing.T) {
	for n := 1; n <= 16; n++ {
		f := quorum.Most(n)
		if !quorum.Valid(api.Config{N: n, F: f}) || quorum.Valid(api.Config{N: n, F: f + 1}) {
			t.Errorf("Most(%d): %d", n, f)
		}
	}
}

type numbers struct{ weak, strong, enough, half int }

func numbersOf(c api.Config) numbers {
	return numbers{quorum.Weak(c), quorum.Strong(c), quorum.Enough(c), quorum.Half(c)}
}

// Here the numbers are written out, not computed.
func TestNumbersOfSomeConfigurations(t *testing.T) {
	for c, want := range map[api.Config]numbers{
		{N: 1}: {1, 1, 1, 1}, {N: 2}: {1, 1, 2, 2}, {N: 3}: {1, 1, 3, 2}, {N: 4}: {1, 1, 4, 3}, {N: 5}: {1, 1, 5, 3},
		{N: 15}: {1, 1, 15, 8}, {N: 16}: {1, 1, 16, 9},
		{N: 4, F: 1}: {2, 3, 3, 3}, {N: 5, F: 1}: {2, 3, 4, 4}, {N: 6, F: 1}: {2, 3, 5, 4}, {N: 7, F: 1}: {2, 3, 6, 5}, {N: 16, F: 1}: {2, 3, 15, 9},
		{N: 7, F: 2}: {3, 5, 5, 5}, {N: 8, F: 2}: {3, 5, 6, 6}, {N: 9, F: 2}: {3, 5, 7, 6},
		{N: 10, F: 3}: {4, 7, 7, 7}, {N: 11, F: 3}: {4, 7, 8, 8}, {N: 12, F: 3}: {4, 7, 9, 8},
		{N: 13, F: 4}: {5, 9, 9, 9}, {N: 14, F: 4}: {5, 9, 10, 10}, {N: 15, F: 4}: {5, 9, 11, 10},
		{N: 16, F: 5}: {6, 11, 11, 11}, {N: 16, F: 4}: {5, 9, 12, 11}, {N: 16, F: 3}: {4, 7, 13, 10},
	} {
		if got := numbersOf(c); got != want {
			t.Errorf("%+v: %+v, not %+v", c, got, want)
		}
	}
}

func TestNumbersOfAllConfigurations(t *testing.T) {
	for _, c := range configs() {
		want := numbers{weak: 1, strong: 1, enough: c.N, half: 1}
		for range c.F {
			want.weak++
			want.strong += 2
			want.enough--
		}
		for rest := c.N + c.F; rest >= 2; rest -= 2 {
			want.half++
		}
		if got := numbersOf(c); got != want {
			t.Errorf("%+v: %+v, not %+v", c, got, want)
		}
	}
}

// Consequences.

// common is how many replicas two sets of so many, of n replicas, have in common at least.
func common(size, n int) int { return max(0, 2*size-n) }

func TestConsequences(t *testing.T) {
	for _, c := range configs() {
		x := numbersOf(c)
		if common(x.enough, c.N) < c.F+1 || common(x.half, c.N) < c.F+1 {
			t.Errorf("%+v: two sets have too few in common", c)
		}
		if common(x.half-1, c.N) >= c.F+1 {
			t.Errorf("%+v: Half is not the least such number", c)
		}
		if x.strong-c.F < c.F+1 || x.weak-c.F < 1 {
			t.Errorf("%+v: too few honest ones", c)
		}
		if x.enough < x.strong || x.enough < x.half {
			t.Errorf("%+v: Enough is less than Strong or Half: %+v", c, x)
		}
		if x.enough != quorum.Size(quorum.All(c))-c.F {
			t.Errorf("%+v: Enough is %d", c, x.enough)
		}
	}
}

// All pairs of sets that have Enough or Half replicas.
func TestSetsHaveReplicasInCommon(t *testing.T) {
	for _, c := range configs() {
		if c.N > 9 {
			continue
		}
		for _, size := range []int{quorum.Enough(c), quorum.Half(c)} {
			var sets []int
			for set := range quorum.All(c) + 1 {
				if quorum.Size(set) == size {
					sets = append(sets, set)
				}
			}
			for _, a := range sets {
				for _, b := range sets {
					if quorum.Size(a&b) < c.F+1 {
						t.Fatalf("%+v: %v and %v", c, quorum.List(a), quorum.List(b))
					}
				}
			}
		}
	}
}

// P10.2

func checkSet(t *testing.T, set int, want []int) {
	t.Helper()
	if got := quorum.List(set); !slices.Equal(got, want) {
		t.Fatalf("List(%#x): %v, not %v", set, got, want)
	}
	if got := quorum.Size(set); got != len(want) {
		t.Fatalf("Size(%#x): %d, not %d", set, got, len(want))
	}
	for replica := -3; replica <= 66; replica++ {
		if got := quorum.Has(set, replica); got != slices.Contains(want, replica) {
			t.Fatalf("Has(%#x, %d): %v", set, replica, got)
		}
	}
}

func checkAdd(t *testing.T, set, replica, want int) {
	t.Helper()
	if got := quorum.Add(set, replica); got != want {
		t.Fatalf("Add(%#x, %d): %#x, not %#x", set, replica, got, want)
	}
}

func TestSetsThatAreWrittenOut(t *testing.T) {
	checkSet(t, 0, nil)
	checkSet(t, 1, []int{0})
	checkSet(t, 9, []int{0, 3})
	checkSet(t, 1<<15, []int{15})
	checkSet(t, 1<<16, nil)
	checkSet(t, 0x18001, []int{0, 15})
	checkSet(t, 0x1234<<16, nil)
	checkSet(t, 0xa5a5, []int{0, 2, 5, 7, 8, 10, 13, 15})
	checkSet(t, 0xffff, []int{0, 1, 2, 3, 4, 5, 6, 7, 8, 9, 10, 11, 12, 13, 14, 15})
	checkSet(t, -1, []int{0, 1, 2, 3, 4, 5, 6, 7, 8, 9, 10, 11, 12, 13, 14, 15})
	checkSet(t, -2, []int{1, 2, 3, 4, 5, 6, 7, 8, 9, 10, 11, 12, 13, 14, 15})
	checkSet(t, -1<<15, []int{15})
	checkSet(t, -1<<16, nil)
	checkSet(t, math.MinInt64, nil)
	checkSet(t, math.MinInt64+5, []int{0, 2})
	checkSet(t, math.MaxInt64-1, []int{1, 2, 3, 4, 5, 6, 7, 8, 9, 10, 11, 12, 13, 14, 15})
}

func TestAddThatIsWrittenOut(t *testing.T) {
	checkAdd(t, 0, 0, 1)
	checkAdd(t, 1, 0, 1)
	checkAdd(t, 1, 3, 9)
	checkAdd(t, 9, 3, 9)
	checkAdd(t, 0, 15, 0x8000)
	checkAdd(t, 5, 16, 5)
	checkAdd(t, 5, -1, 5)
	checkAdd(t, 5, 64, 5)
	checkAdd(t, 5, math.MinInt64, 5)
	checkAdd(t, 5, math.MaxInt64, 5)
	checkAdd(t, 1<<20|2, 0, 3)
	checkAdd(t, 1<<20|2, 20, 2)
	checkAdd(t, 1<<16, 16, 0)
	checkAdd(t, -1, 40, 0xffff)
	checkAdd(t, -1, 4, 0xffff)
	checkAdd(t, -1<<16, 4, 16)
	checkAdd(t, math.MinInt64, 63, 0)
	checkAdd(t, math.MinInt64, -1, 0)
}

func TestAllSets(t *testing.T) {
	for set := range 1 << 16 {
		checkSet(t, set, listOf(set))
	}
}

func TestAddToAllSets(t *testing.T) {
	for set := range 1 << 16 {
		for replica := -2; replica <= 18; replica++ {
			checkAdd(t, set, replica, set|setOf(replica))
		}
	}
}

// Bits that do not count, beside those that do, change nothing.
func TestBitsThatDoNotCount(t *testing.T) {
	for set := 0; set <= 0xffff; set += 251 {
		for _, extra := range extras() {
			checkSet(t, set|extra, listOf(set))
			for replica := -1; replica <= 64; replica++ {
				checkAdd(t, set|extra, replica, set|setOf(replica))
			}
		}
	}
}

func TestNoReplicas(t *testing.T) {
	for _, replica := range wild() {
		if replica >= 0 && replica <= 15 {
			continue
		}
		for _, set := range []int{0, 1, 9, 0x5555, 0x8000, 0xffff, -1, 1 << 16, math.MinInt64, math.MaxInt64} {
			if quorum.Has(set, replica) {
				t.Errorf("Has(%#x, %d)", set, replica)
			}
			checkAdd(t, set, replica, setOf(listOf(set)...))
		}
	}
}

func TestRandomSets(t *testing.T) {
	random := rand.New(rand.NewSource(10))
	for range 5000 {
		set := int(random.Uint64())
		checkSet(t, set, listOf(set))
		if got, want := quorum.Size(set), bits.OnesCount16(uint16(set)); got != want {
			t.Fatalf("Size(%#x): %d, not %d", set, got, want)
		}
		replica := random.Intn(24) - 4
		checkAdd(t, set, replica, set&0xffff|setOf(replica))
	}
}

// However often and in whatever order replicas come, they make the same set.
func TestReplicasAddedInAnyOrder(t *testing.T) {
	random := rand.New(rand.NewSource(11))
	for range 2000 {
		l := listOf(int(random.Uint64()))
		added := slices.Concat(l, l[:len(l)/2], []int{-1, 16, math.MaxInt64})
		random.Shuffle(len(added), func(i, j int) { added[i], added[j] = added[j], added[i] })
		set := 0
		for _, replica := range added {
			set = quorum.Add(set, replica)
		}
		if set != setOf(l...) {
			t.Fatalf("%v: %#x", added, set)
		}
		checkSet(t, set, l)
	}
}

func TestAll(t *testing.T) {
	wants := []int{0x1, 0x3, 0x7, 0xf, 0x1f, 0x3f, 0x7f, 0xff, 0x1ff, 0x3ff, 0x7ff, 0xfff, 0x1fff, 0x3fff, 0x7fff, 0xffff}
	for _, c := range configs() {
		set := quorum.All(c)
		if set != wants[c.N-1] {
			t.Errorf("All(%+v): %#x", c, set)
		}
		var l []int
		for replica := 0; replica < c.N; replica++ {
			l = append(l, replica)
		}
		checkSet(t, set, l)
	}
}

// P1: nothing is promised of what comes out here but that it does, and that it is the same again.

func TestAllNumbersHaveAnEnd(t *testing.T) {
	for _, a := range wild() {
		for _, b := range wild() {
			c := api.Config{N: a, F: b}
			if numbersOf(c) != numbersOf(c) || quorum.All(c) != quorum.All(c) || quorum.Valid(c) != quorum.Valid(c) {
				t.Errorf("%+v has two results", c)
			}
			if quorum.Add(a, b) != quorum.Add(a, b) || quorum.Has(a, b) != quorum.Has(a, b) {
				t.Errorf("%d and %d have two results", a, b)
			}
		}
		checkSet(t, a, listOf(a))
	}
}

// Rule 1 of DOC.md.

// One result is overwritten, also beyond its length: no other one may change by it.
func TestResultsShareNoMemory(t *testing.T) {
	for _, set := range []int{0, 1, 9, 0x8001, 0xa5a5, 0xffff, -1} {
		first, second := quorum.List(set), quorum.List(set)
		for i := range first[:cap(first)] {
			first[:cap(first)][i] = 77
		}
		if want := listOf(set); !slices.Equal(second, want) || !slices.Equal(quorum.List(set), want) {
			t.Errorf("two lists of %#x share memory", set)
		}
	}
}
