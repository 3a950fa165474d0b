package merkle_test

import (
	"math"
	"slices"
	"testing"

	"asyncbft/api"
	"asyncbft/digest"
	"asyncbft/merkle"
)

// most is the greatest number of leaves for which there is a depth.
const most = 1 << 20

// step is what a leaf passes on its way up: its index among those of a row, and whether one stands beside it.
type step struct {
	index  int
	beside bool
}

// steps goes up row by row, apart from the package: neighbours become one, and the last one of an odd number waits.
// A row is cut where the parts are, as the first of them always has a power of two.
func steps(count, index int) []step {
	var l []step
	for ; count > 1; count = (count + 1) / 2 {
		l = append(l, step{index, index^1 < count})
		index /= 2
	}
	return l
}

// rows returns the leaves and what becomes of them, up to the root.
func rows(leaves []api.Digest) [][]api.Digest {
	l := [][]api.Digest{leaves}
	for row := leaves; len(row) > 1; l = append(l, row) {
		var next []api.Digest
		for i := 0; i < len(row); i += 2 {
			if i+1 < len(row) {
				next = append(next, digest.Pair(row[i], row[i+1]))
			} else {
				next = append(next, row[i])
			}
		}
		row = next
	}
	return l
}

func rootOf(leaves []api.Digest) api.Digest {
	l := rows(leaves)
	return l[len(l)-1][0]
}

func pathOf(leaves []api.Digest, index int) []api.Digest {
	var path []api.Digest
	all := rows(leaves)
	for i, s := range steps(len(leaves), index) {
		if s.beside {
			path = append(path, all[i][s.index^1])
		}
	}
	return path
}

func depthOf(count, index int) int {
	depth := 0
	for _, s := range steps(count, index) {
		if s.beside {
			depth++
		}
	}
	return depth
}

// fits is what Check has to answer for an index that is in range.
func fits(root api.Digest, count, index int, leaf api.Digest, path []api.Digest) bool {
	if depthOf(count, index) != len(path) {
		return false
	}
	for _, s := range steps(count, index) {
		switch {
		case !s.beside:
			continue
		case s.index%2 == 1:
			leaf = digest.Pair(path[0], leaf)
		default:
			leaf = digest.Pair(leaf, path[0])
		}
		path = path[1:]
	}
	return leaf == root
}

// trees has leaves that follow no short rule, those that are numbers, and those that are all the same.
func trees(count int) [][]api.Digest {
	mixed, numbers, same := make([]api.Digest, count), make([]api.Digest, count), make([]api.Digest, count)
	for i := range count {
		mixed[i] = digest.Of([]byte{byte(i), byte(i >> 8), 7})
		numbers[i] = api.Digest(i + 1)
	}
	return [][]api.Digest{mixed, numbers, same}
}

// counts has all small numbers of leaves, and powers of two with one more and one less.
func counts() []int {
	var l []int
	for count := 1; count <= 40; count++ {
		l = append(l, count)
	}
	for power := 64; power <= 1024; power *= 2 {
		l = append(l, power-1, power, power+1, power+power/2)
	}
	return l
}

// someIndexes has all of a small number, and of others the first and the last ones and those at borders.
func someIndexes(count int) []int {
	var l []int
	for i := range count {
		if count <= 65 || i < 2 || i > count-3 || (i+1)&i == 0 || i&(i-1) == 0 {
			l = append(l, i)
		}
	}
	return l
}

func path(t *testing.T, leaves []api.Digest, index int) []api.Digest {
	t.Helper()
	l, code := merkle.Path(leaves, index)
	if code != api.OK {
		t.Fatalf("Path of leaf %d of %d: %d", index, len(leaves), code)
	}
	return l
}

func checkPath(t *testing.T, leaves []api.Digest, index int, want []api.Digest) {
	t.Helper()
	if l, code := merkle.Path(leaves, index); code != api.OK || !slices.Equal(l, want) {
		t.Errorf("Path of leaf %d of %d: %#x, %d, not %#x", index, len(leaves), l, code, want)
	}
}

func checkCheck(t *testing.T, root api.Digest, count, index int, leaf api.Digest, l []api.Digest, want bool) {
	t.Helper()
	if got := merkle.Check(root, count, index, leaf, l); got != want {
		t.Errorf("Check(%#x, %d, %d, %#x, %#x) = %t", root, count, index, leaf, l, got)
	}
}

// P5.1

// The numbers here and below were computed by a program apart from this one.
func TestLeavesOfKnownData(t *testing.T) {
	for _, c := range []struct {
		index int
		data  []byte
		want  api.Digest
	}{
		{0, nil, 0x227b272df240ad4d}, {0, []byte{}, 0x227b272df240ad4d}, {0, []byte("a"), 0x7893e85e0b0b49ac}, {1, nil, 0xec08a44e6276617c}, {1, []byte("a"), 0x1e54d23bf55c004e},
		{3, []byte("x"), 0x5804bdfa6caca84f}, {255, []byte("abcdefghi"), 0x0e6f64bdd81f1f76}, {1 << 32, []byte("x"), 0x9c78771df4144b17}, {7, make([]byte, 4096), 0x9f4dcf3cfdbeb8e1},
		{-1, nil, 0xaed496a86d985a67}, {-1, []byte("x"), 0x6bd6af13477dbedd}, {-2, []byte("x"), 0x07015be97a757ab7},
		{math.MaxInt64, nil, 0x683a6fe63bb7005e}, {math.MaxInt64, []byte("x"), 0x7f21f0cc43901033}, {math.MinInt64, []byte("x"), 0x0aba09ad0bceb3b4},
	} {
		if got := merkle.Leaf(c.index, c.data); got != c.want {
			t.Errorf("Leaf(%d, %.40q) = %#x, not %#x", c.index, c.data, got, c.want)
		}
	}
}

func TestLeafIsAsDefined(t *testing.T) {
	indexes := []int{math.MinInt64, math.MinInt64 + 1, -most, -256, -1, 0, 1, 2, 255, 256, most - 1, most, most + 1, math.MaxInt32, math.MaxInt32 + 1, math.MaxInt64 - 1, math.MaxInt64}
	data := [][]byte{nil, {}, {0}, {0, 0}, {255}, []byte("12345678"), []byte("123456789"), make([]byte, 4096), make([]byte, 10000)}
	seen := map[api.Digest]bool{}
	for _, index := range indexes {
		for _, b := range data {
			got := merkle.Leaf(index, b)
			if want := digest.Pair(api.Digest(uint64(index)), digest.Of(b)); got != want {
				t.Errorf("Leaf(%d, %.40q) = %#x, not %#x", index, b, got, want)
			}
			seen[got] = true
		}
	}
	if want := len(indexes) * (len(data) - 1); len(seen) != want {
		t.Errorf("%d different leaves, not %d", len(seen), want)
	}
}

func TestRootsOfKnownLeaves(t *testing.T) {
	for _, c := range []struct {
		count         int
		data, numbers api.Digest
	}{
		{1, 0x7785cf1f05e10ed0, 1}, {2, 0x6ac3fed5b314e9d0, 0xf2e474b96b10804e}, {3, 0xe1361797f09ee91b, 0x65b836abfd568d01}, {4, 0xb338c205d1f53cbb, 0x5ad4fbb5da922797},
		{5, 0xdec56b4dd59bc8e7, 0x6e154fb1adef4aae}, {6, 0xc131a13d897ee0b0, 0xe2635f4c2a23e057}, {7, 0xfe19c7893785257e, 0x26f082722aa67b62}, {8, 0x17e63fce485957a7, 0x6468e96bbe19576b},
		{9, 0xa6139e0b6fee97a7, 0x0c9746b7452eee00}, {15, 0x8029815746a33319, 0x31f19d0bdc5dbc6a}, {16, 0xdaa998bc68314ce6, 0xc3de948984abe96f}, {17, 0xcb04a808a168a6ad, 0xab36cedc713d5257},
		{31, 0x4f53a10128d384b1, 0x5da3a0c4f6f2094c}, {32, 0xb45cf13121b9bf79, 0x995a5cb5e5a30ba4}, {33, 0x01d54b75c96d096e, 0x9c209f53e1c0f380}, {100, 0x18b9601220453194, 0xd2c0b87af4b941a6},
	} {
		var data, numbers []api.Digest
		for i := range c.count {
			data, numbers = append(data, merkle.Leaf(i, []byte{byte(i)})), append(numbers, api.Digest(i+1))
		}
		if got := merkle.Root(data); got != c.data {
			t.Errorf("Root of %d leaves of data: %#x, not %#x", c.count, got, c.data)
		}
		if got := merkle.Root(numbers); got != c.numbers {
			t.Errorf("Root of %d numbers: %#x, not %#x", c.count, got, c.numbers)
		}
	}
}

func TestRootOfFewLeaves(t *testing.T) {
	if merkle.Root(nil) != 0 || merkle.Root([]api.Digest{}) != 0 {
		t.Error("without leaves there is a root")
	}
	for _, d := range []api.Digest{0, 1, 7, 1 << 63, math.MaxUint64} {
		if got := merkle.Root([]api.Digest{d}); got != d {
			t.Errorf("the root of %#x alone is %#x", d, got)
		}
		if got := merkle.Root([]api.Digest{d, 5}); got != digest.Pair(d, 5) {
			t.Errorf("the root of %#x and 5 is %#x", d, got)
		}
		if got := merkle.Root([]api.Digest{5, d}); got != digest.Pair(5, d) {
			t.Errorf("the root of 5 and %#x is %#x", d, got)
		}
	}
}

func TestRootIsThePairOfBothParts(t *testing.T) {
	p := digest.Pair
	for _, c := range []struct {
		leaves []api.Digest
		want   api.Digest
	}{
		{[]api.Digest{9, 8, 7}, p(p(9, 8), 7)}, {[]api.Digest{9, 8, 7, 6}, p(p(9, 8), p(7, 6))}, {[]api.Digest{9, 8, 7, 6, 5}, p(p(p(9, 8), p(7, 6)), 5)},
		{[]api.Digest{9, 8, 7, 6, 5, 4}, p(p(p(9, 8), p(7, 6)), p(5, 4))}, {[]api.Digest{9, 8, 7, 6, 5, 4, 3}, p(p(p(9, 8), p(7, 6)), p(p(5, 4), 3))},
		{[]api.Digest{9, 8, 7, 6, 5, 4, 3, 2}, p(p(p(9, 8), p(7, 6)), p(p(5, 4), p(3, 2)))}, {[]api.Digest{9, 8, 7, 6, 5, 4, 3, 2, 1}, p(p(p(p(9, 8), p(7, 6)), p(p(5, 4), p(3, 2))), 1)},
		{[]api.Digest{0, 0, 0}, p(p(0, 0), 0)},
	} {
		if got := merkle.Root(c.leaves); got != c.want {
			t.Errorf("Root(%v) = %#x, not %#x", c.leaves, got, c.want)
		}
	}
}

func TestRootIsAsDefined(t *testing.T) {
	for _, count := range counts() {
		first := 1
		for 2*first < count {
			first *= 2
		}
		for _, leaves := range trees(count) {
			got := merkle.Root(leaves)
			if want := rootOf(leaves); got != want {
				t.Errorf("Root of %d leaves: %#x, not %#x", count, got, want)
			}
			if count > 1 && got != digest.Pair(merkle.Root(leaves[:first]), merkle.Root(leaves[first:])) {
				t.Errorf("Root of %d leaves: not the pair of those of %d and %d", count, first, count-first)
			}
		}
	}
}

func TestRootOfChangedLeaves(t *testing.T) {
	for _, count := range counts() {
		leaves := trees(count)[0]
		root := merkle.Root(leaves)
		for _, i := range someIndexes(count) {
			for _, change := range []api.Digest{1, 1 << 31, 1 << 63, math.MaxUint64} {
				other := slices.Clone(leaves)
				other[i] ^= change
				if merkle.Root(other) == root {
					t.Errorf("leaf %d of %d does not count", i, count)
				}
			}
			if i > 0 {
				other := slices.Clone(leaves)
				other[i], other[i-1] = other[i-1], other[i]
				if merkle.Root(other) == root {
					t.Errorf("leaves %d and %d of %d can be exchanged", i-1, i, count)
				}
			}
		}
	}
}

// P5.2

func TestPathsOfKnownLeaves(t *testing.T) {
	const both, four = api.Digest(0xf2e474b96b10804e), api.Digest(0x5ad4fbb5da922797) // the roots of 1, 2 and of 1, 2, 3, 4
	for _, c := range []struct {
		count, index int
		want         []api.Digest
	}{
		{1, 0, nil}, {2, 0, []api.Digest{2}}, {2, 1, []api.Digest{1}}, {3, 0, []api.Digest{2, 3}}, {3, 1, []api.Digest{1, 3}}, {3, 2, []api.Digest{both}},
		{5, 0, []api.Digest{2, 0x615b2e0ada8156dc, 5}}, {5, 3, []api.Digest{3, both, 5}}, {5, 4, []api.Digest{four}},
		{7, 4, []api.Digest{6, 7, four}}, {7, 6, []api.Digest{0x8f076f593df7493d, four}},
	} {
		checkPath(t, trees(c.count)[1], c.index, c.want)
	}
}

func TestPathIsAsDefined(t *testing.T) {
	for _, count := range counts() {
		for _, leaves := range trees(count) {
			for _, i := range someIndexes(count) {
				checkPath(t, leaves, i, pathOf(leaves, i))
			}
		}
	}
}

func TestPathOfTheOnlyLeaf(t *testing.T) {
	for _, d := range []api.Digest{0, 1, math.MaxUint64} {
		checkPath(t, []api.Digest{d}, 0, nil)
	}
}

// The first leaf passes all first parts, the last one of a tree with one leaf more than a power of two only the whole.
func TestPathOfTheFirstAndTheLastLeaf(t *testing.T) {
	for depth := 1; depth <= 10; depth++ {
		leaves := trees(1<<depth + 1)[0]
		want := []api.Digest{leaves[1]}
		for size := 2; size < len(leaves)-1; size *= 2 {
			want = append(want, merkle.Root(leaves[size:2*size]))
		}
		checkPath(t, leaves, 0, append(want, leaves[len(leaves)-1]))
		checkPath(t, leaves[:len(leaves)-1], 0, want)
		checkPath(t, leaves, len(leaves)-1, []api.Digest{merkle.Root(leaves[:len(leaves)-1])})
	}
}

func TestPathOfNoLeaf(t *testing.T) {
	for _, count := range append(counts(), 0) {
		for _, leaves := range append(trees(count), nil) {
			for _, i := range []int{math.MinInt64, math.MinInt32, -2, -1, len(leaves), len(leaves) + 1, 2*len(leaves) + 1, math.MaxInt32, math.MaxInt64} {
				if l, code := merkle.Path(leaves, i); len(l) != 0 || code != api.ErrRange {
					t.Errorf("Path of leaf %d of %d: %v, %d", i, len(leaves), l, code)
				}
			}
		}
	}
}

func TestDepthIsTheLengthOfThePath(t *testing.T) {
	for _, count := range counts() {
		leaves := trees(count)[0]
		for _, i := range someIndexes(count) {
			if got, l := merkle.Depth(count, i), path(t, leaves, i); got != len(l) {
				t.Errorf("Depth(%d, %d) = %d, but the path is %v", count, i, got, l)
			}
		}
	}
}

func TestDepthIsAsDefined(t *testing.T) {
	for count := 1; count <= 300; count++ {
		for i := range count {
			if got, want := merkle.Depth(count, i), depthOf(count, i); got != want {
				t.Errorf("Depth(%d, %d) = %d, not %d", count, i, got, want)
			}
		}
	}
	for power := 512; power <= most; power *= 2 {
		for _, count := range []int{power/2 + 1, power/2 + 2, power - power/8 - 1, power - 1, power} {
			for _, i := range []int{0, 1, 2, power/4 - 1, power / 4, power/2 - 1, power / 2, count/2 - 1, count / 2, count - 2, count - 1} {
				if got, want := merkle.Depth(count, i), depthOf(count, i); got != want {
					t.Errorf("Depth(%d, %d) = %d, not %d", count, i, got, want)
				}
			}
		}
	}
}

func TestDepthOfKnownLeaves(t *testing.T) {
	for _, c := range [][3]int{
		{1, 0, 0}, {2, 0, 1}, {2, 1, 1}, {3, 0, 2}, {3, 1, 2}, {3, 2, 1}, {4, 0, 2}, {4, 3, 2}, {5, 0, 3}, {5, 3, 3}, {5, 4, 1}, {6, 3, 3}, {6, 4, 2}, {6, 5, 2}, {7, 3, 3}, {7, 4, 3}, {7, 6, 2},
		{8, 7, 3}, {9, 7, 4}, {9, 8, 1}, {16, 15, 4}, {17, 15, 5}, {17, 16, 1}, {most - 1, 0, 20}, {most - 1, most - 2, 19}, {most - 1, most - 3, 20}, {most, 0, 20}, {most, 5, 20},
		{most, most/2 - 1, 20}, {most, most / 2, 20}, {most, most - 1, 20}, {most/2 + 1, most/2 - 1, 20}, {most/2 + 1, most / 2, 1},
	} {
		if got := merkle.Depth(c[0], c[1]); got != c[2] {
			t.Errorf("Depth(%d, %d) = %d, not %d", c[0], c[1], got, c[2])
		}
	}
}

// outOfRange has counts and indexes for which there is no depth.
func outOfRange() [][2]int {
	var l [][2]int
	for _, count := range []int{1, 2, 3, 4, 5, 16, 17, most - 1, most} {
		for _, i := range []int{math.MinInt64, -most, -2, -1, count, count + 1, 2 * count, math.MaxInt64} {
			l = append(l, [2]int{count, i})
		}
	}
	for _, count := range []int{0, -1, -2, -most, math.MinInt64} {
		for _, i := range []int{math.MinInt64, count - 1, count, count + 1, -1, 0, 1, math.MaxInt64} {
			l = append(l, [2]int{count, i})
		}
	}
	for _, count := range []int{most + 1, most + 2, 2 * most, math.MaxInt32, 1 << 62, 1<<62 + 1, math.MaxInt64} {
		for _, i := range []int{math.MinInt64, -1, 0, 1, 5, most - 1, most, count - 1, count} {
			l = append(l, [2]int{count, i})
		}
	}
	return l
}

func TestDepthOfNoLeaf(t *testing.T) {
	for _, x := range outOfRange() {
		if got := merkle.Depth(x[0], x[1]); got != -1 {
			t.Errorf("Depth(%d, %d) = %d", x[0], x[1], got)
		}
	}
}

// P5.3

func TestCheckOfKnownPaths(t *testing.T) {
	p := digest.Pair
	three, five := p(p(1, 2), 3), p(p(p(1, 2), p(3, 4)), 5)
	for _, c := range []struct {
		root         api.Digest
		count, index int
		leaf         api.Digest
		path         []api.Digest
		want         bool
	}{
		{7, 1, 0, 7, nil, true}, {7, 1, 0, 7, []api.Digest{}, true}, {0, 1, 0, 0, nil, true}, {7, 1, 0, 8, nil, false}, {7, 1, 0, 7, []api.Digest{7}, false},
		{p(1, 2), 2, 0, 1, []api.Digest{2}, true}, {p(1, 2), 2, 1, 2, []api.Digest{1}, true}, {p(1, 2), 2, 1, 1, []api.Digest{2}, false}, {p(1, 2), 2, 0, 2, []api.Digest{1}, false},
		{three, 3, 0, 1, []api.Digest{2, 3}, true}, {three, 3, 1, 2, []api.Digest{1, 3}, true}, {three, 3, 2, 3, []api.Digest{p(1, 2)}, true}, {three, 3, 0, 1, []api.Digest{3, 2}, false},
		{three, 3, 0, p(1, 2), []api.Digest{3}, false}, {three, 2, 0, p(1, 2), []api.Digest{3}, true},
		{five, 5, 0, 1, []api.Digest{2, p(3, 4), 5}, true}, {five, 5, 3, 4, []api.Digest{3, p(1, 2), 5}, true}, {five, 5, 4, 5, []api.Digest{p(p(1, 2), p(3, 4))}, true},
		{five, 5, 3, 4, []api.Digest{5, p(1, 2), 3}, false}, {five, 5, 4, 5, []api.Digest{p(p(3, 4), p(1, 2))}, false},
		// Without leaves there is a root, but no leaf.
		{0, 0, 0, 0, nil, false}, {0, 0, -1, 0, nil, false},
	} {
		checkCheck(t, c.root, c.count, c.index, c.leaf, c.path, c.want)
	}
}

func TestCheckHoldsForEachLeafWithItsPath(t *testing.T) {
	for _, count := range counts() {
		for _, leaves := range trees(count) {
			root := merkle.Root(leaves)
			for _, i := range someIndexes(count) {
				checkCheck(t, root, count, i, leaves[i], path(t, leaves, i), true)
			}
		}
	}
}

func TestCheckOfAnotherRootOrLeaf(t *testing.T) {
	for _, count := range counts() {
		leaves := trees(count)[0]
		root := merkle.Root(leaves)
		for _, i := range someIndexes(count) {
			l := path(t, leaves, i)
			for bit := range 64 {
				checkCheck(t, root^1<<bit, count, i, leaves[i], l, false)
				checkCheck(t, root, count, i, leaves[i]^1<<bit, l, false)
			}
			checkCheck(t, 0, count, i, leaves[i], l, false)
			checkCheck(t, root, count, i, 0, l, false)
			if count > 1 {
				checkCheck(t, root, count, i, leaves[(i+1)%count], l, false)
				checkCheck(t, root, count, i, root, l, false)
				checkCheck(t, leaves[i], count, i, leaves[i], l, false)
			}
		}
	}
}

func TestCheckOfAChangedPath(t *testing.T) {
	for _, count := range counts() {
		leaves := trees(count)[0]
		root := merkle.Root(leaves)
		for _, i := range someIndexes(count) {
			l := path(t, leaves, i)
			for at := range l {
				for _, bit := range []int{0, 1, 7, 31, 32, 62, 63} {
					other := slices.Clone(l)
					other[at] ^= 1 << bit
					checkCheck(t, root, count, i, leaves[i], other, false)
				}
				if at > 0 {
					other := slices.Clone(l)
					other[at], other[at-1] = other[at-1], other[at]
					checkCheck(t, root, count, i, leaves[i], other, false)
				}
			}
		}
	}
}

func TestCheckOfAPathOfAnotherLength(t *testing.T) {
	for _, count := range counts() {
		for _, leaves := range trees(count) {
			root := merkle.Root(leaves)
			for _, i := range someIndexes(count) {
				l := path(t, leaves, i)
				for at := range l {
					checkCheck(t, root, count, i, leaves[i], l[:at], false)
					checkCheck(t, root, count, i, leaves[i], l[at+1:], false)
					checkCheck(t, root, count, i, leaves[i], slices.Delete(slices.Clone(l), at, at+1), false)
				}
				for at := range len(l) + 1 {
					for _, d := range []api.Digest{0, 1, leaves[i], root} {
						checkCheck(t, root, count, i, leaves[i], slices.Insert(slices.Clone(l), at, d), false)
					}
				}
				checkCheck(t, root, count, i, leaves[i], append(slices.Clone(l), make([]api.Digest, 100)...), false)
			}
		}
	}
	// A path that leads on from what was the root has one element too many, also if its end is the root.
	checkCheck(t, digest.Pair(digest.Pair(1, 2), 3), 2, 0, 1, []api.Digest{2, 3}, false)
	checkCheck(t, digest.Pair(7, 8), 1, 0, 7, []api.Digest{8}, false)
	checkCheck(t, 5, 1, 0, 5, make([]api.Digest, 1<<16), false)
}

// With other leaves than this one at each index, a path fits at its own index alone.
func TestCheckOfAnotherIndex(t *testing.T) {
	for _, count := range counts() {
		leaves := trees(count)[0]
		root := merkle.Root(leaves)
		for _, i := range someIndexes(count) {
			l := path(t, leaves, i)
			for _, other := range someIndexes(count) {
				checkCheck(t, root, count, other, leaves[i], l, other == i)
			}
			for _, none := range []int{math.MinInt64, i - count, -1, count, i + count, math.MaxInt64} {
				if none < 0 || none >= count {
					checkCheck(t, root, count, none, leaves[i], l, false)
				}
			}
		}
	}
}

// With another count a leaf fits where its way up is the same.
func TestCheckOfAnotherCount(t *testing.T) {
	p := digest.Pair
	root := p(p(1, 2), 3)
	for count := range 40 {
		checkCheck(t, root, count, 0, 1, []api.Digest{2, 3}, count == 3 || count == 4)
		checkCheck(t, root, count, 1, 2, []api.Digest{1, 3}, count == 3 || count == 4)
		checkCheck(t, root, count, 2, 3, []api.Digest{p(1, 2)}, count == 3)
		checkCheck(t, p(p(1, 2), p(3, 4)), count, 2, 3, []api.Digest{4, p(1, 2)}, count == 4)
		checkCheck(t, p(p(p(1, 2), p(3, 4)), 5), count, 4, 5, []api.Digest{p(p(1, 2), p(3, 4))}, count == 5)
	}
	for count := 1; count <= 35; count++ {
		leaves := trees(count)[0]
		root := merkle.Root(leaves)
		for i := range count {
			l := path(t, leaves, i)
			for other := range 70 {
				for index := range other {
					checkCheck(t, root, other, index, leaves[i], l, fits(root, other, index, leaves[i], l))
				}
			}
		}
	}
}

func TestCheckWhereThereIsNoDepth(t *testing.T) {
	for _, x := range outOfRange() {
		for _, l := range [][]api.Digest{nil, {}, {7}, {7, 7}, make([]api.Digest, 20), make([]api.Digest, 21)} {
			for _, root := range []api.Digest{0, 7, digest.Pair(7, 7)} {
				checkCheck(t, root, x[0], x[1], 7, l, false)
				checkCheck(t, root, x[0], x[1], root, l, false)
			}
		}
	}
}

// The limit of Depth and Check is none of Root and Path.
func TestTreesOfManyLeaves(t *testing.T) {
	leaves := trees(most + 1)[0]
	root := merkle.Root(leaves[:most])
	for _, i := range []int{0, most/2 - 1, most / 2, most - 1} {
		l := path(t, leaves[:most], i)
		if len(l) != 20 {
			t.Errorf("the path of leaf %d has %d elements", i, len(l))
		}
		checkCheck(t, root, most, i, leaves[i], l, true)
		checkCheck(t, root, most, i, leaves[i], l[:19], false)
		l[19]++
		checkCheck(t, root, most, i, leaves[i], l, false)
	}
	checkPath(t, leaves, most, []api.Digest{root})
	whole := merkle.Root(leaves)
	if whole != digest.Pair(root, leaves[most]) {
		t.Errorf("Root of %d leaves: %#x", most+1, whole)
	}
	checkCheck(t, whole, most+1, most, leaves[most], []api.Digest{root}, false)
	checkCheck(t, whole, most+1, 5, leaves[5], path(t, leaves, 5), false)
}

// Rule 1 of DOC.md.

func TestArgumentsStayAsTheyAre(t *testing.T) {
	for count := 1; count <= 20; count++ {
		// The leaves, the path and the data are a part of more.
		whole := trees(count + 8)[0]
		before := slices.Clone(whole)
		leaves := whole[3 : 3+count]
		root := merkle.Root(leaves)
		for i := range count {
			more := append(slices.Clone(path(t, leaves, i)), 77, 78, 79)
			old := slices.Clone(more)
			for range 2 {
				checkCheck(t, root, count, i, leaves[i], more[:len(more)-3], true)
				checkPath(t, leaves, i, old[:len(old)-3])
			}
			if !slices.Equal(more, old) {
				t.Errorf("Check changes the path of leaf %d of %d", i, count)
			}
		}
		if merkle.Root(leaves) != root || !slices.Equal(whole, before) {
			t.Errorf("%d leaves were changed, or have two roots", count)
		}
	}
	text := []byte("0123456789")
	if merkle.Leaf(4, text[2:5]) != merkle.Leaf(4, []byte("234")) || string(text) != "0123456789" {
		t.Error("Leaf changes data, or has two results")
	}
}

// One result is overwritten, also beyond its length: nothing else may change by it.
func TestPathsShareNoMemory(t *testing.T) {
	for _, count := range counts() {
		leaves := trees(count)[0]
		for _, i := range someIndexes(count) {
			first, second := path(t, leaves, i), path(t, leaves, i)
			first = first[:cap(first)]
			for j := range first {
				first[j] = ^first[j]
			}
			if !slices.Equal(leaves, trees(count)[0]) || !slices.Equal(second, pathOf(leaves, i)) {
				t.Fatalf("the path of leaf %d of %d shares memory", i, count)
			}
		}
	}
}
