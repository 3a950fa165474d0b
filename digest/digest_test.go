package digest_test

import (
	"bytes"
	"fmt"
	"math/big"
	"slices"
	"testing"

	"asyncbft/api"
	"asyncbft/digest"
)

const greatest = 1<<64 - 1

// spread returns what Mix does after each multiplication, with numbers of any length: the exclusive or with the number divided by a power of two.
func spread(x, factor *big.Int, shift uint) *big.Int {
	product := new(big.Int).Mul(x, factor)
	product.Mod(product, new(big.Int).Lsh(big.NewInt(1), 64))
	return product.Xor(product, new(big.Int).Rsh(product, shift))
}

// mixed computes Mix apart from the package.
func mixed(x uint64) uint64 {
	first, _ := new(big.Int).SetString("9e3779b97f4a7c15", 16)
	second, _ := new(big.Int).SetString("d6e8feb86659fd93", 16)
	return spread(spread(new(big.Int).SetUint64(x), first, 32), second, 29).Uint64()
}

// unmixed goes the way of Mix back: each factor has an inverse modulo 2^64, and an exclusive or with the upper bits is undone from above.
func unmixed(y uint64) uint64 {
	y = y ^ y>>29 ^ y>>58
	y *= 0xcfee444d8b59a89b
	y ^= y >> 32
	return y * 0xf1de83e19937733d
}

// chained returns what mixing in each of the words makes of the start.
func chained(start uint64, words ...uint64) api.Digest {
	for _, w := range words {
		start = mixed(start ^ w)
	}
	return api.Digest(start)
}

// wordsOf adds up the bytes of each word, times the power of 256 that its place has.
func wordsOf(b []byte) []uint64 {
	words := make([]uint64, (len(b)+7)/8)
	for i, x := range b {
		power := uint64(1)
		for range i % 8 {
			power *= 256
		}
		words[i/8] += uint64(x) * power
	}
	return words
}

// numbers has small numbers, those with one bit or all but one, and others that follow no short rule.
func numbers() []uint64 {
	l := []uint64{0, 3, 255, 257, 0x0123456789abcdef, 0xfedcba9876543210, 0x5bd1e9955bd1e995, 0x8000000080000000}
	for i := range 64 {
		l = append(l, 1<<i, greatest-1<<i, greatest>>i, greatest<<i)
	}
	x := uint64(88172645463325252)
	for range 300 {
		x = x*6364136223846793005 + 1442695040888963407
		l = append(l, x)
	}
	return l
}

// letters returns bytes that follow no short rule, also 0 and 255 among them.
func letters(length, seed int) []byte {
	b := make([]byte, length)
	state := uint32(seed*7001 + 17)
	for i := range b {
		state = state*1664525 + 1013904223
		b[i] = byte(state >> 20)
	}
	return b
}

func checkOf(t *testing.T, b []byte) {
	t.Helper()
	if got, want := digest.Of(b), chained(mixed(uint64(len(b))), wordsOf(b)...); got != want {
		t.Errorf("Of %d bytes, %.40v: %#x, not %#x", len(b), b, got, want)
	}
}

// checkDifferent fails if two of these have the same digest.
func checkDifferent[T any](t *testing.T, l []T, of func(T) api.Digest) {
	t.Helper()
	seen := map[api.Digest]T{}
	for _, x := range l {
		d := of(x)
		if other, ok := seen[d]; ok {
			t.Errorf("%v and %v have the digest %#x", other, x, d)
		}
		seen[d] = x
	}
}

// P4.1

// The numbers here and below were computed by a program apart from this one.
func TestMixOfKnownNumbers(t *testing.T) {
	for _, c := range [][2]uint64{
		{0, 0}, {1, 0x17fb89ee35ed72b0}, {2, 0xc99d164c588ac9d8}, {3, 0xe7d92ae11f257bd8}, {255, 0x3d342cadfe3e100a}, {256, 0x6aad39bda28b421a},
		{1<<32 - 1, 0x4dc5cb0bb8d9305e}, {1 << 32, 0xce4572944798959e}, {1 << 63, 0xb32cfecc1967f64c}, {1<<63 + 1, 0x64ce8b262c4564ec},
		{0x8000000080000000, 0xfbae39eb3add4ed9}, {0xfedcba9876543210, 0x9b19a5379e4bede0}, {greatest - 1, 0x161f2bf4f7892be3}, {greatest, 0x1f9b169d0c538fb8},
	} {
		if got := digest.Mix(c[0]); got != c[1] {
			t.Errorf("Mix(%#x) = %#x, not %#x", c[0], got, c[1])
		}
	}
}

func TestMixIsAsDefined(t *testing.T) {
	for _, x := range numbers() {
		if got, want := digest.Mix(x), mixed(x); got != want {
			t.Errorf("Mix(%#x) = %#x, not %#x", x, got, want)
		}
	}
}

func TestMixIsABijection(t *testing.T) {
	for _, x := range numbers() {
		if got := unmixed(digest.Mix(x)); got != x {
			t.Errorf("Mix(%#x) leads back to %#x", x, got)
		}
		if got := digest.Mix(unmixed(x)); got != x {
			t.Errorf("%#x comes from %#x, of which Mix makes %#x", x, unmixed(x), got)
		}
	}
	seen := map[uint64]bool{}
	for x := range uint64(1 << 16) {
		// The lowest numbers, the greatest ones, and those that differ in the middle.
		seen[digest.Mix(x)], seen[digest.Mix(greatest-x)], seen[digest.Mix((x+1)<<24)] = true, true, true
	}
	if len(seen) != 3<<16 {
		t.Errorf("%d different results of %d numbers", len(seen), 3<<16)
	}
}

func TestOfKnownStrings(t *testing.T) {
	all := make([]byte, 256)
	for i := range all {
		all[i] = byte(i)
	}
	for _, c := range []struct {
		b    []byte
		want api.Digest
	}{
		{nil, 0}, {[]byte{}, 0}, {[]byte("a"), 0x541262d532185396}, {[]byte("abcdefg"), 0xadc0b2a39d5a267a}, {[]byte("abcdefgh"), 0x5776e4c0f7f211ec},
		{[]byte("abcdefghi"), 0xc55288625fb64541}, {[]byte("abcdefghijklmnop"), 0x7b516ea654a642b9}, {[]byte("abcdefghijklmnopq"), 0x4972b4de9bc3d2fb},
		{make([]byte, 1), 0xfa99d0b4c78be55b}, {make([]byte, 7), 0xef6fd9d81ef9d189}, {make([]byte, 8), 0x79185f75abc85dc0}, {make([]byte, 9), 0x64d97c3619d91cf8},
		{make([]byte, 16), 0xc7b52ade28380707}, {[]byte{255}, 0x5bb207c2a14996da}, {bytes.Repeat([]byte{255}, 8), 0x2546547c0146bffd},
		{all, 0xa8c6c4e72a6bb628}, {make([]byte, 4096), 0x8a75a6eaf0abbc93},
	} {
		if got := digest.Of(c.b); got != c.want {
			t.Errorf("Of %d bytes, %.40v: %#x, not %#x", len(c.b), c.b, got, c.want)
		}
	}
}

func TestOfIsAsDefined(t *testing.T) {
	for length := range 70 {
		checkOf(t, make([]byte, length))
		checkOf(t, bytes.Repeat([]byte{255}, length))
		checkOf(t, bytes.Repeat([]byte{128}, length))
		for seed := range 5 {
			checkOf(t, letters(length, seed))
		}
	}
	for _, length := range []int{255, 256, 257, 4095, 4096, 4097, 1 << 18} {
		checkOf(t, letters(length, 1))
	}
}

func TestOfMixesEachByteIntoItsPlace(t *testing.T) {
	for length := 1; length <= 25; length++ {
		for at := range length {
			for _, x := range []byte{1, 127, 128, 255} {
				b := make([]byte, length)
				b[at] = x
				checkOf(t, b)
				b = letters(length, 3)
				b[at] = x
				checkOf(t, b)
			}
		}
	}
}

// A word of which the lowest byte comes first is the number itself.
func TestOfOneWord(t *testing.T) {
	for _, c := range []struct {
		b    []byte
		word uint64
	}{
		{[]byte{1, 2, 3, 4, 5, 6, 7, 8}, 0x0807060504030201}, {[]byte{8, 7, 6, 5, 4, 3, 2, 1}, 0x0102030405060708}, {[]byte{0, 0, 0, 0, 0, 0, 0, 128}, 1 << 63},
		{[]byte{128, 0, 0, 0, 0, 0, 0, 0}, 128}, {[]byte{1, 2, 3}, 0x030201}, {[]byte{0, 0, 3}, 0x030000}, {[]byte{7}, 7}, {[]byte{0, 0, 0, 0, 0, 0, 9}, 9 << 48},
	} {
		if got, want := digest.Of(c.b), chained(mixed(uint64(len(c.b))), c.word); got != want {
			t.Errorf("Of(%v) = %#x, not %#x", c.b, got, want)
		}
	}
	if digest.Of([]byte{1, 2, 3, 4, 5, 6, 7, 8}) == digest.Of([]byte{8, 7, 6, 5, 4, 3, 2, 1}) {
		t.Error("the order of the bytes of a word does not count")
	}
}

// The words of a string count in their order, and the last one alone is filled up.
func TestOfSeveralWords(t *testing.T) {
	for _, c := range []struct {
		b     []byte
		words []uint64
	}{
		{[]byte{1, 0, 0, 0, 0, 0, 0, 0, 2}, []uint64{1, 2}}, {[]byte{2, 0, 0, 0, 0, 0, 0, 0, 1}, []uint64{2, 1}}, {[]byte{0, 0, 0, 0, 0, 0, 0, 0, 0}, []uint64{0, 0}},
		{[]byte{1, 0, 0, 0, 0, 0, 0, 0, 2, 0, 0, 0, 0, 0, 0, 0}, []uint64{1, 2}}, {[]byte{1, 0, 0, 0, 0, 0, 0, 0, 0, 0, 0, 0, 0, 0, 0, 2, 3, 4}, []uint64{1, 2 << 56, 0x0403}},
	} {
		if got, want := digest.Of(c.b), chained(mixed(uint64(len(c.b))), c.words...); got != want {
			t.Errorf("Of(%v) = %#x, not %#x", c.b, got, want)
		}
	}
}

func TestOfStringsThatDifferInLengthAlone(t *testing.T) {
	for _, start := range []string{"", "a", "abcdefg", "abcdefgh", "abcdefghi", "\x00\x01"} {
		var l []string
		for zeros := range 40 {
			l = append(l, start+string(make([]byte, zeros)))
		}
		checkDifferent(t, l, func(s string) api.Digest { return digest.Of([]byte(s)) })
	}
}

func TestOfStringsThatDifferWithinOneWord(t *testing.T) {
	for _, length := range []int{1, 7, 8, 9, 16, 20, 33} {
		for first := 0; first < length; first += 8 {
			end := min(first+8, length)
			l := [][]byte{letters(length, 2)}
			for at := first; at < end; at++ {
				for change := 1; change < 256; change++ {
					b := letters(length, 2)
					b[at] ^= byte(change)
					l = append(l, b)
				}
				for other := at + 1; other < end; other++ {
					b := letters(length, 2)
					b[at] ^= 1
					b[other] ^= 1
					l = append(l, b)
				}
			}
			checkDifferent(t, l, digest.Of)
		}
	}
}

// P4.2

func TestPairsOfKnownDigests(t *testing.T) {
	for _, c := range [][3]api.Digest{
		{0, 0, 0x227b272df240ad4d}, {0, 1, 0x531dd7143439a892}, {1, 0, 0xec08a44e6276617c}, {3, 4, 0x615b2e0ada8156dc}, {4, 3, 0xaf90daaf671b813c},
		{greatest, 0, 0xaed496a86d985a67}, {0, greatest, 0xc8dbc6c500a3248e}, {greatest, greatest, 0xd952f406ca9053e5},
		{0x5bd1e9955bd1e995, 0, 0}, {1 << 63, 1, 0x88c117bc1933b2ac},
	} {
		if got := digest.Pair(c[0], c[1]); got != c[2] {
			t.Errorf("Pair(%#x, %#x) = %#x, not %#x", c[0], c[1], got, c[2])
		}
	}
}

func TestPairIsAsDefined(t *testing.T) {
	l := numbers()
	for i, a := range l {
		for _, b := range []uint64{0, 1, a, greatest, 1 << 63, 0x5bd1e9955bd1e995, l[len(l)-1-i]} {
			if got, want := digest.Pair(api.Digest(a), api.Digest(b)), chained(0x5bd1e9955bd1e995, a, b); got != want {
				t.Errorf("Pair(%#x, %#x) = %#x, not %#x", a, b, got, want)
			}
		}
	}
}

func TestPairsThatAreExchanged(t *testing.T) {
	l := numbers()
	for i, a := range l {
		for _, b := range l[:i] {
			if a != b && digest.Pair(api.Digest(a), api.Digest(b)) == digest.Pair(api.Digest(b), api.Digest(a)) {
				t.Errorf("%#x and %#x can be exchanged", a, b)
			}
		}
	}
}

func TestPairsThatDifferInOneDigest(t *testing.T) {
	var l []api.Digest
	for x := range uint64(5000) {
		l = append(l, api.Digest(x), api.Digest(greatest-x), api.Digest((x+1)<<20))
	}
	for _, fixed := range []api.Digest{0, 1, 7, 0x5bd1e9955bd1e995, 1 << 63, greatest} {
		checkDifferent(t, l, func(d api.Digest) api.Digest { return digest.Pair(fixed, d) })
		checkDifferent(t, l, func(d api.Digest) api.Digest { return digest.Pair(d, fixed) })
	}
}

func TestListsOfKnownDigests(t *testing.T) {
	for _, c := range []struct {
		l    []api.Digest
		want api.Digest
	}{
		{nil, 0xce4572944798959e}, {[]api.Digest{}, 0xce4572944798959e}, {[]api.Digest{0}, 0xdb9129a24d73dc3c}, {[]api.Digest{1}, 0x1d5cfca6499c8999},
		{[]api.Digest{0, 0}, 0x1d0b91974f15693c}, {[]api.Digest{0, 0, 0}, 0x60a6f9be35d2c1a1}, {[]api.Digest{5, 6}, 0x60daf748db626e6d}, {[]api.Digest{6, 5}, 0xd4311d30dbc77cc1},
		{[]api.Digest{1, 2, 3}, 0x0ac265d00b5f1710}, {[]api.Digest{3, 2, 1}, 0x375e2b2397d9bd37}, {[]api.Digest{2, 1, 3}, 0x4dc5d63ff3df2d86},
		{[]api.Digest{greatest}, 0x2411a948b5d956b6}, {[]api.Digest{greatest, 1 << 63, 0}, 0x6610c1621271ca4c},
	} {
		if got := digest.List(c.l); got != c.want {
			t.Errorf("List(%#x) = %#x, not %#x", c.l, got, c.want)
		}
	}
}

func TestListIsAsDefined(t *testing.T) {
	all := numbers()
	for _, count := range []int{0, 1, 2, 3, 4, 7, 8, 9, 16, 64, 255, 256, len(all)} {
		for _, start := range []int{0, 1, 40, len(all) - count} {
			if start+count > len(all) {
				continue
			}
			words := all[start : start+count]
			var l []api.Digest
			for _, w := range words {
				l = append(l, api.Digest(w))
			}
			if got, want := digest.List(l), chained(mixed(uint64(count)+1<<32), words...); got != want {
				t.Errorf("List of %d digests from %d: %#x, not %#x", count, start, got, want)
			}
		}
	}
}

func TestListsInDifferentOrders(t *testing.T) {
	var orders [][]api.Digest
	for a := range 4 {
		for b := range 4 {
			for c := range 4 {
				if a != b && b != c && c != a {
					orders = append(orders, []api.Digest{api.Digest(a), api.Digest(b), api.Digest(c), api.Digest(6 - a - b - c)})
				}
			}
		}
	}
	checkDifferent(t, orders, digest.List)
}

func TestListsThatDifferInOneDigest(t *testing.T) {
	for count := 1; count <= 9; count++ {
		for at := range count {
			var l [][]api.Digest
			for x := range uint64(500) {
				for _, d := range []uint64{x, greatest - x, (x + 1) << 40} {
					one := make([]api.Digest, count)
					for i := range one {
						one[i] = api.Digest(i * 1000003)
					}
					one[at] = api.Digest(d)
					l = append(l, one)
				}
			}
			checkDifferent(t, l, digest.List)
		}
	}
}

func TestListsOfZerosDifferInTheirNumber(t *testing.T) {
	var l [][]api.Digest
	for count := range 50 {
		l = append(l, make([]api.Digest, count))
	}
	checkDifferent(t, l, digest.List)
}

// P4.3

func TestTextOfKnownDigests(t *testing.T) {
	for _, c := range []struct {
		d    api.Digest
		want string
	}{
		{0, "0000000000000000"}, {1, "0000000000000001"}, {0x1f, "000000000000001f"}, {10, "000000000000000a"}, {0xabc, "0000000000000abc"},
		{1 << 32, "0000000100000000"}, {1 << 59, "0800000000000000"}, {1<<60 - 1, "0fffffffffffffff"}, {1 << 60, "1000000000000000"}, {1<<63 - 1, "7fffffffffffffff"},
		{1 << 63, "8000000000000000"}, {0x0123456789abcdef, "0123456789abcdef"}, {0xfedcba9876543210, "fedcba9876543210"}, {greatest, "ffffffffffffffff"},
	} {
		if got := digest.Text(c.d); got != c.want {
			t.Errorf("Text(%d) = %q, not %q", uint64(c.d), got, c.want)
		}
	}
}

func TestTextIsAsDefined(t *testing.T) {
	for _, x := range numbers() {
		if got, want := digest.Text(api.Digest(x)), fmt.Sprintf("%016x", x); got != want {
			t.Errorf("Text(%d) = %q, not %q", x, got, want)
		}
	}
}

func TestTextOfEachDigitAtEachPlace(t *testing.T) {
	for place := range 16 {
		for digit := range 16 {
			want := bytes.Repeat([]byte("0"), 16)
			want[15-place] = "0123456789abcdef"[digit]
			if got := digest.Text(api.Digest(digit) << (4 * place)); got != string(want) {
				t.Errorf("digit %d at place %d: %q, not %q", digit, place, got, want)
			}
		}
	}
}

// Rule 1 of DOC.md.

func TestArgumentsStayAsTheyAre(t *testing.T) {
	whole := letters(40, 4)
	before := slices.Clone(whole)
	list := []api.Digest{1, 2, 3, 4, 5, 6}
	for length := range 31 {
		// What lies behind the end of a part neither counts nor changes.
		if digest.Of(whole[5:5+length]) != digest.Of(slices.Clone(before[5:5+length])) {
			t.Errorf("Of %d bytes depends on others", length)
		}
	}
	if digest.List(list[1:4]) != digest.List([]api.Digest{2, 3, 4}) {
		t.Error("List depends on other digests")
	}
	if !bytes.Equal(whole, before) || !slices.Equal(list, []api.Digest{1, 2, 3, 4, 5, 6}) {
		t.Error("an argument was changed")
	}
}
