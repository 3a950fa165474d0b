package shards_test

import (
	"bytes"
	"math"
	"slices"
	"testing"

	"asyncbft/api"
	"asyncbft/field"
	"asyncbft/shards"
)

func same(a, b [][]byte) bool { return slices.EqualFunc(a, b, bytes.Equal) }

// mixed returns data that follow no short rule and have no 0; they differ for each seed.
func mixed(length, seed int) []byte {
	data := make([]byte, length)
	state := uint32(seed*5000 + length)
	for i := range data {
		state = state*1664525 + 1013904223
		data[i] = byte(1 + (state>>16)%255)
	}
	return data
}

// sizeOf counts up to the first size of which k have room for the length.
func sizeOf(length, k int) int {
	size := 0
	for k*size < length {
		size++
	}
	return size
}

// filled returns the data with as many zeros behind them as k rows have room for.
func filled(data []byte, k int) []byte {
	return append(slices.Clone(data), make([]byte, k*sizeOf(len(data), k)-len(data))...)
}

// curves makes shards apart from the package: byte j of shard i is the value at i + 1 of the polynomial that has the bytes j of the rows at 1 to k.
func curves(t *testing.T, data []byte, k, n int) [][]byte {
	t.Helper()
	size, all := sizeOf(len(data), k), filled(data, k)
	l := make([][]byte, n)
	for i := range l {
		for j := range size {
			var xs, ys []byte
			for row := range k {
				xs, ys = append(xs, byte(row+1)), append(ys, all[row*size+j])
			}
			y, code := field.Interpolate(xs, ys, byte(i+1))
			if code != api.OK {
				t.Fatalf("Interpolate: %d", code)
			}
			l[i] = append(l[i], y)
		}
	}
	return l
}

func encode(t *testing.T, data []byte, k, n int) [][]byte {
	t.Helper()
	l, code := shards.Encode(data, k, n)
	if code != api.OK || len(l) != n {
		t.Fatalf("Encode of %d bytes with %d and %d: %d shards, %d", len(data), k, n, len(l), code)
	}
	return l
}

// pick returns the shards with these indexes, in this order, each with memory of its own.
func pick(all [][]byte, indexes ...int) []api.Shard {
	var l []api.Shard
	for _, i := range indexes {
		l = append(l, api.Shard{Index: i, Data: slices.Clone(all[i])})
	}
	return l
}

func upTo(n int) []int {
	l := make([]int, n)
	for i := range l {
		l[i] = i
	}
	return l
}

// bits returns the elements of a set, ascending.
func bits(set int) []int {
	var l []int
	for i := range 16 {
		if set>>i&1 == 1 {
			l = append(l, i)
		}
	}
	return l
}

func checkData(t *testing.T, l []api.Shard, k, n int, want []byte) {
	t.Helper()
	if data, code := shards.Decode(l, k, n, len(want)); code != api.OK || !bytes.Equal(data, want) {
		t.Fatalf("Decode of %v with %d and %d: %v, %d, not %v", l, k, n, data, code, want)
	}
}

func checkFits(t *testing.T, l []api.Shard, k, n, length int, want bool) {
	t.Helper()
	if got := shards.Fits(l, k, n, length); got != want {
		t.Fatalf("Fits of %v with %d, %d and %d: %t", l, k, n, length, got)
	}
}

// checkFault checks an error of Decode, with which nothing fits.
func checkFault(t *testing.T, l []api.Shard, k, n, length int, want api.Errno) {
	t.Helper()
	if data, code := shards.Decode(l, k, n, length); len(data) != 0 || code != want {
		t.Errorf("Decode of %v with %d, %d and %d: %v, %d, not %d", l, k, n, length, data, code, want)
	}
	checkFits(t, l, k, n, length, false)
}

// noCode has pairs of k and n that are not as in 1 <= k <= n <= MaxSide.
var noCode = [][2]int{
	{0, 0}, {0, 1}, {0, 4}, {0, 16}, {-1, 4}, {-4, -2}, {-1, -1}, {-1, 0}, {1, 0}, {1, -1},
	{2, 1}, {5, 4}, {16, 15}, {17, 16}, {17, 17}, {16, 17}, {1, 17}, {4, 256}, {4, 260}, {256, 256}, {257, 4},
	{math.MinInt, 4}, {4, math.MaxInt}, {math.MaxInt, math.MaxInt}, {math.MaxInt, 4}, {4, math.MinInt}, {math.MinInt, math.MinInt}, {math.MinInt, math.MaxInt},
}

// lengths has none, lengths that a k divides and others, and the greatest ones.
var lengths = []int{0, 1, 2, 3, 15, 16, 17, 31, 60, 255, 256, 257, 4095, 4096}

// codes has each pair of k and n for which there is a code.
func codes(visit func(k, n int)) {
	for n := 1; n <= 16; n++ {
		for k := 1; k <= n; k++ {
			visit(k, n)
		}
	}
}

// P3.1

func TestSize(t *testing.T) {
	for length := range 200 {
		for k := 1; k < 210; k++ {
			if got, want := shards.Size(length, k), sizeOf(length, k); got != want {
				t.Errorf("Size(%d, %d) = %d, not %d", length, k, got, want)
			}
		}
	}
	for _, x := range [][3]int{
		{4096, 1, 4096}, {4096, 3, 1366}, {4096, 16, 256}, {4097, 16, 257}, {math.MaxInt, 1, math.MaxInt}, {math.MaxInt, 2, 1 << 62},
		{math.MaxInt, math.MaxInt - 1, 2}, {math.MaxInt, math.MaxInt, 1}, {math.MaxInt - 1, math.MaxInt, 1}, {1, math.MaxInt, 1},
	} {
		if got := shards.Size(x[0], x[1]); got != x[2] {
			t.Errorf("Size(%d, %d) = %d, not %d", x[0], x[1], got, x[2])
		}
	}
}

func TestSizeOfNumbersLessThanOne(t *testing.T) {
	for _, low := range []int{0, -1, -2, -16, math.MinInt, math.MinInt + 1} {
		for _, x := range []int{1, 2, 16, 4096, math.MaxInt, 0, -1, -3, math.MinInt} {
			if first, second := shards.Size(low, x), shards.Size(x, low); first != 0 || second != 0 {
				t.Errorf("Size(%d, %d) = %d, Size(%d, %d) = %d", low, x, first, x, low, second)
			}
		}
	}
}

func TestEncodeExamples(t *testing.T) {
	if l := encode(t, []byte{1, 2, 3}, 2, 2); !same(l, [][]byte{{1, 2}, {3, 0}}) {
		t.Errorf("%v", l)
	}
	// At 3 and 4 the line through 1 at 1 and 3 at 2 has 246 and 7, the one through 2 at 1 and 0 at 2 has 245 and 4.
	if l := encode(t, []byte{1, 2, 3}, 2, 4); !same(l, [][]byte{{1, 2}, {3, 0}, {246, 245}, {7, 4}}) {
		t.Errorf("%v", l)
	}
}

func TestEncodeIsTheCodeTimesTheColumns(t *testing.T) {
	codes(func(k, n int) {
		for _, length := range lengths {
			if length > 300 && (n+k)%5 != 0 {
				continue
			}
			data := mixed(length, k+n)
			if l := encode(t, data, k, n); !same(l, curves(t, data, k, n)) {
				t.Fatalf("Encode of %v with %d and %d: %v", data, k, n, l)
			}
		}
	})
}

func TestFirstShardsAreTheData(t *testing.T) {
	codes(func(k, n int) {
		for _, length := range lengths {
			data := mixed(length, k+n)
			if l := encode(t, data, k, n); !bytes.Equal(slices.Concat(l[:k]...), filled(data, k)) {
				t.Fatalf("Encode of %v with %d and %d: %v", data, k, n, l)
			}
		}
	})
}

func TestEncodeForOneNeeded(t *testing.T) {
	for n := 1; n <= 16; n++ {
		for _, length := range lengths {
			data := mixed(length, n)
			for i, shard := range encode(t, data, 1, n) {
				if !bytes.Equal(shard, data) {
					t.Fatalf("shard %d of %v is %v", i, data, shard)
				}
			}
		}
	}
}

func TestEncodeOfNothing(t *testing.T) {
	codes(func(k, n int) {
		for _, data := range [][]byte{nil, {}} {
			for i, shard := range encode(t, data, k, n) {
				if len(shard) != 0 {
					t.Errorf("shard %d of nothing with %d and %d is %v", i, k, n, shard)
				}
			}
		}
	})
}

func TestEncodeIsAdditive(t *testing.T) {
	for _, kn := range [][2]int{{1, 1}, {2, 4}, {5, 9}, {6, 16}, {16, 16}} {
		a, b := mixed(100, 1), mixed(100, 2)
		sum := make([]byte, 100)
		for i := range sum {
			sum[i] = a[i] ^ b[i]
		}
		la, lb, l := encode(t, a, kn[0], kn[1]), encode(t, b, kn[0], kn[1]), encode(t, sum, kn[0], kn[1])
		for i := range l {
			for j := range l[i] {
				if l[i][j] != la[i][j]^lb[i][j] {
					t.Fatalf("%v: byte %d of shard %d is no sum", kn, j, i)
				}
			}
		}
	}
}

func TestEncodeErrors(t *testing.T) {
	// k and n count first, also with too many bytes.
	for _, kn := range noCode {
		for _, length := range []int{0, 5, 4096, 4097, 10000} {
			if l, code := shards.Encode(make([]byte, length), kn[0], kn[1]); l != nil || code != api.ErrRange {
				t.Errorf("Encode of %d bytes with %v: %v, %d", length, kn, l, code)
			}
		}
	}
	codes(func(k, n int) {
		for _, length := range []int{4097, 4098, 1 << 16} {
			if l, code := shards.Encode(make([]byte, length), k, n); l != nil || code != api.ErrLimit {
				t.Errorf("Encode of %d bytes with %d and %d: %v, %d", length, k, n, l, code)
			}
		}
		if l := encode(t, make([]byte, 4096), k, n); len(l[n-1]) != (4096+k-1)/k {
			t.Errorf("shards of %d bytes", len(l[n-1]))
		}
	})
}

// P3.2

// All sets of k shards, one half of them with the last index first.
func TestAnyShardsGiveTheData(t *testing.T) {
	codes(func(k, n int) {
		if n > 7 && (n < 16 || k > 3 && k < 14) {
			return
		}
		for _, length := range []int{1, 2 * k, 2*k + 1, 5 * k} {
			data := mixed(length, n)
			all := encode(t, data, k, n)
			for set := range 1 << n {
				indexes := bits(set)
				if len(indexes) != k {
					continue
				}
				if set%2 == 1 {
					slices.Reverse(indexes)
				}
				checkData(t, pick(all, indexes...), k, n, data)
				checkFits(t, pick(all, indexes...), k, n, length, true)
			}
		}
	})
}

func TestShardsInAnyOrderGiveTheData(t *testing.T) {
	data := mixed(11, 3)
	all := encode(t, data, 3, 5)
	for a := range 5 {
		for b := range 5 {
			for c := range 5 {
				if a != b && b != c && c != a {
					checkData(t, pick(all, a, b, c), 3, 5, data)
				}
			}
		}
	}
}

func TestDecodeOfAllLengths(t *testing.T) {
	codes(func(k, n int) {
		for _, length := range lengths {
			data := mixed(length, 9)
			all := encode(t, data, k, n)
			last := upTo(n)[n-k:]
			checkData(t, pick(all, last...), k, n, data)
			slices.Reverse(last)
			checkData(t, pick(all, last...), k, n, data)
			checkData(t, pick(all, upTo(n)...), k, n, data)
		}
	})
}

func TestDecodeOfShardsThatNobodyMade(t *testing.T) {
	// Where nothing was filled up, any bytes are the shards of some data.
	for _, kn := range [][2]int{{1, 2}, {2, 4}, {3, 7}, {8, 16}, {16, 16}} {
		k, n := kn[0], kn[1]
		var l []api.Shard
		for i := range k {
			l = append(l, api.Shard{Index: n - 1 - i, Data: mixed(6, i)})
		}
		data, code := shards.Decode(l, k, n, 6*k)
		if code != api.OK || len(data) != 6*k {
			t.Fatalf("%v: %v, %d", kn, data, code)
		}
		made := curves(t, data, k, n)
		for _, shard := range l {
			if !bytes.Equal(made[shard.Index], shard.Data) {
				t.Errorf("%v: shard %d of the data is %v, not %v", kn, shard.Index, made[shard.Index], shard.Data)
			}
		}
		checkFits(t, l, k, n, 6*k, true)
	}
}

func TestOnlyTheFirstShardsOfTheListCount(t *testing.T) {
	for _, kn := range [][2]int{{1, 2}, {1, 16}, {2, 4}, {3, 7}, {6, 16}, {15, 16}} {
		k, n := kn[0], kn[1]
		data := mixed(5*k-1, n)
		all := encode(t, data, k, n)
		order := upTo(n)
		slices.Reverse(order)
		for at := range n {
			l := pick(all, order...)
			l[at].Data[0] ^= 3
			if at >= k {
				checkData(t, l, k, n, data)
			} else if got, code := shards.Decode(l, k, n, len(data)); code == api.OK && bytes.Equal(got, data) {
				t.Errorf("%v: shard %d of the list does not count", kn, at)
			}
			checkFits(t, l, k, n, len(data), false)
		}
		// The rest may have what would be ErrForm among the first ones.
		l := pick(all, upTo(n)...)
		for i := k; i < n; i++ {
			l[i].Data = bytes.Repeat([]byte{255}, len(l[i].Data))
		}
		checkData(t, l, k, n, data)
	}
}

func TestDecodeOfNumbersOutOfRange(t *testing.T) {
	// Also with shards that are wrong in other ways.
	lists := [][]api.Shard{nil, {{Index: 99}}, {{Index: 0}, {Index: 0}}, {{Index: 0, Data: []byte{1}}}, pick(encode(t, mixed(8, 1), 2, 4), 0, 1, 2)}
	for _, l := range lists {
		for _, kn := range noCode {
			for _, length := range []int{0, 1, 8, 4096, -1, 4097} {
				checkFault(t, l, kn[0], kn[1], length, api.ErrRange)
			}
		}
		codes(func(k, n int) {
			for _, length := range []int{-1, -2, -4096, 4097, 4098, 1 << 16, math.MaxInt, math.MinInt} {
				checkFault(t, l, k, n, length, api.ErrRange)
			}
		})
	}
}

func TestDecodeOfInvalidShards(t *testing.T) {
	codes(func(k, n int) {
		data := mixed(2*k, n)
		all := encode(t, data, k, n)
		for at := range n {
			for _, index := range []int{-1, -2, n, n + 1, 255, 256, 256 + at, math.MaxInt, math.MinInt} {
				l := pick(all, upTo(n)...)
				l[at].Index = index
				checkFault(t, l, k, n, len(data), api.ErrInvalid)
			}
			for _, other := range []int{0, 1, 3, 4, 2*k + 2, 5000} {
				l := pick(all, upTo(n)...)
				l[at].Data = make([]byte, other)
				checkFault(t, l, k, n, len(data), api.ErrInvalid)
			}
			l := pick(all, upTo(n)...)
			l[at].Data = nil
			checkFault(t, l, k, n, len(data), api.ErrInvalid)
		}
		for at := range n {
			l := make([]api.Shard, n)
			for i := range l {
				l[i].Index = i
			}
			checkData(t, l, k, n, nil)
			l[at].Data = []byte{0}
			checkFault(t, l, k, n, 0, api.ErrInvalid)
		}
	})
	// Shards have the size that the length asks for, not the one that they have in common.
	all := encode(t, mixed(8, 1), 2, 4)
	for length := range 20 {
		if length != 7 && length != 8 {
			checkFault(t, pick(all, 0, 1, 2), 2, 4, length, api.ErrInvalid)
		}
	}
}

func TestDecodeOfShardsThatOccurTwice(t *testing.T) {
	codes(func(k, n int) {
		data := mixed(3*k, n)
		all := encode(t, data, k, n)
		for index := range n {
			for at := range n {
				if at == index {
					continue
				}
				// With the same bytes, or with others.
				l := pick(all, upTo(n)...)
				l[at].Index = index
				checkFault(t, l, k, n, len(data), api.ErrExists)
				l[at].Data = slices.Clone(l[index].Data)
				checkFault(t, l, k, n, len(data), api.ErrExists)
			}
			more := append(upTo(n), index)
			checkFault(t, pick(all, more...), k, n, len(data), api.ErrExists)
			checkFault(t, pick(all, index, index), k, n, len(data), api.ErrExists)
		}
	})
	many := make([]api.Shard, 1<<16)
	checkFault(t, many, 1, 1, 0, api.ErrExists)
}

func TestDecodeOfTooFewShards(t *testing.T) {
	codes(func(k, n int) {
		for _, length := range []int{0, 1, 3 * k, 4096} {
			all := encode(t, mixed(length, n), k, n)
			for count := range k {
				checkFault(t, pick(all, upTo(count)...), k, n, length, api.ErrMissing)
				checkFault(t, pick(all, upTo(n)[n-count:]...), k, n, length, api.ErrMissing)
			}
			checkFault(t, []api.Shard{}, k, n, length, api.ErrMissing)
		}
	})
}

func TestDecodeOfBytesThatAreNotFilledUp(t *testing.T) {
	for _, kn := range [][2]int{{2, 2}, {2, 4}, {3, 7}, {6, 16}, {16, 16}} {
		k, n := kn[0], kn[1]
		for _, length := range []int{1, 2, k + 1, 3*k - 1, 4*k - k/2, 100, 4095} {
			whole := filled(mixed(length, n), k)
			for at := length; at < len(whole); at++ {
				for _, x := range []byte{1, 128, 255} {
					wrong := slices.Clone(whole)
					wrong[at] = x
					// The shards of the longer data are in order, but not for the shorter length.
					all := curves(t, wrong, k, n)
					first, last := pick(all, upTo(n)[:k]...), pick(all, upTo(n)[n-k:]...)
					if len(wrong) <= 4096 {
						checkData(t, first, k, n, wrong)
					}
					checkFault(t, first, k, n, length, api.ErrForm)
					checkFault(t, last, k, n, length, api.ErrForm)
				}
			}
		}
	}
}

func TestOrderOfErrorsOfDecode(t *testing.T) {
	x := func(index int, data ...byte) api.Shard { return api.Shard{Index: index, Data: data} }
	for _, c := range []struct {
		l    []api.Shard
		want api.Errno
	}{
		// An invalid shard counts before what comes twice, is missing or was not filled up, wherever it is.
		{[]api.Shard{x(0, 1, 2), x(0, 1, 2), x(4, 1, 2)}, api.ErrInvalid},
		{[]api.Shard{x(0, 1, 2), x(0, 1, 2), x(1, 1)}, api.ErrInvalid},
		{[]api.Shard{x(0, 1, 2), x(0, 1, 2, 3)}, api.ErrInvalid},
		{[]api.Shard{x(-1, 1, 2)}, api.ErrInvalid},
		{[]api.Shard{x(1, 1)}, api.ErrInvalid},
		{[]api.Shard{x(0, 1, 2), x(1, 3, 4), x(2)}, api.ErrInvalid},
		{[]api.Shard{x(5, 1, 2), x(5, 1, 2)}, api.ErrInvalid},
		// Then what comes twice, before what is missing or was not filled up.
		{[]api.Shard{x(0, 1, 2), x(1, 3, 4), x(1, 3, 4)}, api.ErrExists},
		{[]api.Shard{x(0, 1, 2), x(1, 3, 4), x(2, 5, 5), x(0, 1, 2)}, api.ErrExists},
		{[]api.Shard{x(1, 3, 4), x(1, 3, 4)}, api.ErrExists},
		// Then what is missing, before what was not filled up.
		{[]api.Shard{x(1, 3, 4)}, api.ErrMissing},
		{[]api.Shard{x(0, 1, 2), x(1, 3, 4)}, api.ErrForm},
		{[]api.Shard{x(1, 3, 4), x(0, 1, 2)}, api.ErrForm},
		{[]api.Shard{x(1, 3, 4), x(0, 1, 2), x(2, 7, 7), x(3, 8, 8)}, api.ErrForm},
	} {
		checkFault(t, c.l, 2, 4, 3, c.want)
	}
	checkFault(t, []api.Shard{x(0), x(0), x(0)}, 4, 4, 0, api.ErrExists)
	checkData(t, []api.Shard{x(1, 3, 0), x(0, 1, 2)}, 2, 4, []byte{1, 2, 3})
}

// P3.3

func TestFitsWithAllShards(t *testing.T) {
	codes(func(k, n int) {
		for _, length := range lengths {
			all := encode(t, mixed(length, k), k, n)
			for count := k; count <= n; count++ {
				if length > 300 && count != k && count != n {
					continue
				}
				checkFits(t, pick(all, upTo(count)...), k, n, length, true)
				l := pick(all, upTo(n)[n-count:]...)
				slices.Reverse(l)
				checkFits(t, l, k, n, length, true)
			}
		}
	})
}

func TestFitsWithOneWrongByte(t *testing.T) {
	for _, kn := range [][2]int{{1, 2}, {2, 3}, {2, 4}, {3, 7}, {6, 16}, {15, 16}} {
		k, n := kn[0], kn[1]
		for _, length := range []int{1, 4 * k, 4*k - 1} {
			all := encode(t, mixed(length, n), k, n)
			for at := range n {
				for j := range all[at] {
					for _, change := range []byte{1, 64, 255} {
						l := pick(all, upTo(n)...)
						l[at].Data[j] ^= change
						checkFits(t, l, k, n, length, false)
						slices.Reverse(l)
						checkFits(t, l, k, n, length, false)
					}
				}
			}
		}
	}
}

// The shards of two values do not fit together, also if each of them is a shard of one of them.
func TestFitsWithShardsOfTwoValues(t *testing.T) {
	a, b := encode(t, mixed(20, 1), 3, 7), encode(t, mixed(20, 2), 3, 7)
	for set := range 1 << 7 {
		l := pick(a, upTo(7)...)
		for _, i := range bits(set) {
			l[i].Data = slices.Clone(b[i])
		}
		checkFits(t, l, 3, 7, 20, set == 0 || set == 127)
	}
	swapped := pick(a, upTo(7)...)
	swapped[4].Data, swapped[5].Data = swapped[5].Data, swapped[4].Data
	checkFits(t, swapped, 3, 7, 20, false)
}

// The other errors of Decode, with which nothing fits, are checked with those.
func TestFitsOnlyForTheRightNumbers(t *testing.T) {
	l := pick(encode(t, mixed(12, 1), 3, 7), upTo(7)...)
	codes(func(k, n int) {
		for _, length := range []int{10, 11, 12} {
			// A longer value may have been filled up with zeros, but these bytes are none. More replicas change no shard.
			checkFits(t, l, k, n, length, k == 3 && n >= 7 && length == 12)
		}
	})
	zeros := pick(encode(t, make([]byte, 12), 3, 7), upTo(7)...)
	for length := range 20 {
		checkFits(t, zeros, 3, 7, length, length >= 10 && length <= 12)
	}
}

// Rule 1 of DOC.md.

func TestArgumentsStayAsTheyAre(t *testing.T) {
	// The data are a part of more, and so is each shard, and the list.
	whole := mixed(40, 1)
	before := slices.Clone(whole)
	first, _ := shards.Encode(whole[5:15], 3, 5)
	second, _ := shards.Encode(whole[5:15], 3, 5)
	if !bytes.Equal(whole, before) || !same(first, second) {
		t.Error("Encode changes data, or has two results")
	}
	var list []api.Shard
	var memory [][]byte
	for i := range 5 {
		row := slices.Concat([]byte{77}, first[4-i], []byte{99, 98})
		memory = append(memory, row)
		list = append(list, api.Shard{Index: 4 - i, Data: row[1 : 1+len(first[4-i])]})
	}
	old := make([][]byte, 5)
	for i := range old {
		old[i] = slices.Clone(memory[i])
	}
	for range 2 {
		checkData(t, list[:4], 3, 5, whole[5:15])
		checkFits(t, list[:4], 3, 5, 10, true)
	}
	for i, shard := range list {
		if shard.Index != 4-i || &shard.Data[0] != &memory[i][1] || len(shard.Data) != 4 {
			t.Errorf("shard %d of the list was changed", i)
		}
	}
	if !same(memory, old) {
		t.Error("the bytes of a shard were changed")
	}
}

// One result is overwritten, also beyond its length: nothing else may change by it.
func TestResultsShareNoMemory(t *testing.T) {
	codes(func(k, n int) {
		for _, length := range []int{1, 4 * k, 4*k + 1} {
			data := mixed(length, n)
			l := encode(t, data, k, n)
			for i := range l {
				rest := encode(t, data, k, n)
				shard := rest[i][:cap(rest[i])]
				for j := range shard {
					shard[j] ^= 255
				}
				for j := range rest {
					if j != i && !bytes.Equal(rest[j], l[j]) {
						t.Fatalf("with %d and %d the shards %d and %d share memory", k, n, i, j)
					}
				}
			}
			checkDecodeIsNew(t, l, k, n, data)
			if !bytes.Equal(data, mixed(length, n)) {
				t.Error("data share memory with shards")
			}
		}
	})
}

func checkDecodeIsNew(t *testing.T, all [][]byte, k, n int, data []byte) {
	t.Helper()
	l := pick(all, upTo(n)...)
	got, _ := shards.Decode(l, k, n, len(data))
	again, _ := shards.Decode(l, k, n, len(data))
	got = got[:cap(got)]
	for i := range got {
		got[i] ^= 255
	}
	for i, shard := range l {
		if !bytes.Equal(shard.Data, all[i]) {
			t.Fatalf("with %d and %d the data share memory with shard %d", k, n, i)
		}
	}
	if !bytes.Equal(again, data) {
		t.Fatalf("with %d and %d two results share memory", k, n)
	}
}
