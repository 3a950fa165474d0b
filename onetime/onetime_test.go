package onetime_test

import (
	"math"
	"slices"
	"strings"
	"testing"

	"asyncbft/api"
	"asyncbft/digest"
	"asyncbft/onetime"
)

const greatest = api.Digest(math.MaxUint64)

// digitsOf reads the digits from the text of a digest, apart from the package.
func digitsOf(d api.Digest) []int {
	var l []int
	left := 0
	for _, c := range digest.Text(d) {
		digit := strings.IndexRune("0123456789abcdef", c)
		l, left = append(l, digit), left+15-digit
	}
	return append(l, left>>4, left&15)
}

// stepped goes from one position up to another one, which is not gone from.
func stepped(x api.Digest, chain, from, to int) api.Digest {
	if from >= to {
		return x
	}
	return stepped(digest.List([]api.Digest{x, api.Digest(uint64(chain)), api.Digest(uint64(from))}), chain, from+1, to)
}

func secretOf(seed api.Digest, chain int) api.Digest {
	return digest.List([]api.Digest{seed, 7, api.Digest(uint64(chain))})
}

func publicOf(seed api.Digest) api.Digest {
	var ends []api.Digest
	for chain := 0; chain < 18; chain++ {
		ends = append(ends, stepped(secretOf(seed, chain), chain, 0, 15))
	}
	return digest.List(ends)
}

func signatureOf(seed, d api.Digest) []api.Digest {
	var l []api.Digest
	for chain, digit := range digitsOf(d) {
		l = append(l, stepped(secretOf(seed, chain), chain, 0, digit))
	}
	return l
}

func recovered(d api.Digest, chains []api.Digest) api.Digest {
	var ends []api.Digest
	for chain, digit := range digitsOf(d) {
		ends = append(ends, stepped(chains[chain], chain, digit, 15))
	}
	return digest.List(ends)
}

// oneDigit has the digests in which one digit is not 0.
func oneDigit(value int) []api.Digest {
	var l []api.Digest
	for i := range 16 {
		l = append(l, api.Digest(value)<<(4*i))
	}
	return l
}

// digests has those that the chapter names, those in which one digit is 15, 1 or 0 among others, and mixed ones.
func digests() []api.Digest {
	l := []api.Digest{0, greatest, 0x0123456789abcdef, 0xfedcba9876543210, 1 << 63, 1<<63 - 1, 0xffffffff, 0xffffffff00000000}
	l = append(l, oneDigit(1)...)
	for _, d := range oneDigit(15) {
		l = append(l, d, greatest-d)
	}
	for i := range 100 {
		l = append(l, digest.Of([]byte{byte(i)}))
	}
	return l
}

func seeds() []api.Digest { return []api.Digest{0, 1, 2, 7, 77, 1 << 32, 1 << 63, greatest} }

// wild has numbers for which nothing but an end is promised, besides others.
func wild() []int {
	return []int{math.MinInt64, math.MinInt64 + 1, math.MinInt32, -17, -1, 0, 1, 7, 15, 16, 17, 18, 1 << 20, math.MaxInt32, math.MaxInt64 - 15, math.MaxInt64 - 1, math.MaxInt64}
}

func checkDigits(t *testing.T, d api.Digest, want []int) {
	t.Helper()
	if got := onetime.Digits(d); !slices.Equal(got, want) {
		t.Errorf("Digits(%#x) = %v, not %v", d, got, want)
	}
}

func checkStep(t *testing.T, x api.Digest, chain, from, times int, want api.Digest) {
	t.Helper()
	if got := onetime.Step(x, chain, from, times); got != want {
		t.Errorf("Step(%#x, %d, %d, %d) = %#x, not %#x", x, chain, from, times, got, want)
	}
}

func checkRecover(t *testing.T, d api.Digest, chains []api.Digest, want api.Digest) {
	t.Helper()
	if got, code := onetime.Recover(d, chains); got != want || code != api.OK {
		t.Errorf("Recover(%#x, %#x) = %#x, %d, not %#x", d, chains, got, code, want)
	}
}

func recoverOf(t *testing.T, d api.Digest, chains []api.Digest) api.Digest {
	t.Helper()
	got, code := onetime.Recover(d, chains)
	if code != api.OK {
		t.Errorf("Recover(%#x, %#x): %d", d, chains, code)
	}
	return got
}

// P6.1

func TestDigitsOfKnownDigests(t *testing.T) {
	for _, c := range []struct {
		d    api.Digest
		want []int
	}{
		{0, []int{0, 0, 0, 0, 0, 0, 0, 0, 0, 0, 0, 0, 0, 0, 0, 0, 15, 0}},
		{greatest, []int{15, 15, 15, 15, 15, 15, 15, 15, 15, 15, 15, 15, 15, 15, 15, 15, 0, 0}},
		{0x0123456789abcdef, []int{0, 1, 2, 3, 4, 5, 6, 7, 8, 9, 10, 11, 12, 13, 14, 15, 7, 8}},
		{0xfedcba9876543210, []int{15, 14, 13, 12, 11, 10, 9, 8, 7, 6, 5, 4, 3, 2, 1, 0, 7, 8}},
		{1, []int{0, 0, 0, 0, 0, 0, 0, 0, 0, 0, 0, 0, 0, 0, 0, 1, 14, 15}},
		{1 << 63, []int{8, 0, 0, 0, 0, 0, 0, 0, 0, 0, 0, 0, 0, 0, 0, 0, 14, 8}},
		{greatest - 1, []int{15, 15, 15, 15, 15, 15, 15, 15, 15, 15, 15, 15, 15, 15, 15, 14, 0, 1}},
		{0xf0f0f0f0f0f0f0f0, []int{15, 0, 15, 0, 15, 0, 15, 0, 15, 0, 15, 0, 15, 0, 15, 0, 7, 8}},
		{0xfffffffffffffff0, []int{15, 15, 15, 15, 15, 15, 15, 15, 15, 15, 15, 15, 15, 15, 15, 0, 0, 15}},
		{0xffffffffffffffe0, []int{15, 15, 15, 15, 15, 15, 15, 15, 15, 15, 15, 15, 15, 15, 14, 0, 1, 0}},
	} {
		checkDigits(t, c.d, c.want)
	}
}

// One digit of 15 leaves 225, that is 14 times 16 and 1, wherever it stands; one that is less than 15 among others leaves what it has less.
func TestDigitsWhereOneIsDifferent(t *testing.T) {
	for place := range 16 {
		for value := range 16 {
			at := 4 * (15 - place)
			low, high := make([]int, 18), slices.Repeat([]int{15}, 18)
			low[place], low[16], low[17] = value, (240-value)/16, (240-value)%16
			high[place], high[16], high[17] = value, 0, 15-value
			checkDigits(t, api.Digest(value)<<at, low)
			checkDigits(t, greatest-api.Digest(15-value)<<at, high)
		}
	}
	for _, d := range oneDigit(15) {
		if l := onetime.Digits(d); len(l) != 18 || l[16] != 14 || l[17] != 1 {
			t.Errorf("Digits(%#x) = %v", d, l)
		}
	}
}

func TestDigitsAreAsDefined(t *testing.T) {
	for _, d := range digests() {
		checkDigits(t, d, digitsOf(d))
		l := onetime.Digits(d)
		if len(l) != api.Chains || slices.Min(l) < 0 || slices.Max(l) > 15 {
			t.Errorf("Digits(%#x) = %v", d, l)
		}
	}
}

// The numbers here and below were computed by a program apart from this one.
func TestStepsOfKnownDigests(t *testing.T) {
	for _, c := range []struct {
		x                  api.Digest
		chain, from, times int
		want               api.Digest
	}{
		{9, 4, 2, 1, 0x7259fcaae9dfc951}, {9, 4, 2, 2, 0x64669e50e78dc5c0}, {0, 0, 0, 1, 0x60a6f9be35d2c1a1}, {0, 0, 0, 15, 0xb859bfaca2970ca5},
		{greatest, 17, 15, 1, 0xee6f16fe442851a5}, {greatest, 17, 14, 2, 0x6ac1834c3a690172}, {5, 17, 0, 16, 0x52a662f28656800f}, {1 << 63, 3, 7, 8, 0x7ec6178a1a0c3702},
		{9, -1, 0, 3, 0x87a3f31d71ffd052},
	} {
		checkStep(t, c.x, c.chain, c.from, c.times, c.want)
	}
}

func TestNoStep(t *testing.T) {
	for _, x := range []api.Digest{0, 1, 9, 1 << 63, greatest} {
		for _, chain := range []int{-1, 0, 7, 17, 18} {
			for from := range 16 {
				for _, times := range []int{0, -1, -2, -16, math.MinInt32, math.MinInt64} {
					checkStep(t, x, chain, from, times, x)
				}
			}
		}
	}
}

func TestOneStepIsTheListOfThree(t *testing.T) {
	for _, x := range []api.Digest{0, 1, 9, 1 << 63, greatest} {
		for _, chain := range []int{math.MinInt64, -1, 0, 1, 7, 17, 18, math.MaxInt64} {
			for from := range 16 {
				checkStep(t, x, chain, from, 1, digest.List([]api.Digest{x, api.Digest(uint64(chain)), api.Digest(from)}))
			}
		}
	}
}

// From each position with each number of steps: at once, in two portions, and one by one.
func TestStepsAreAsDefined(t *testing.T) {
	for _, x := range []api.Digest{0, 9, greatest} {
		for chain := range api.Chains {
			for from := range 16 {
				single := x
				for times := range 17 {
					checkStep(t, x, chain, from, times, stepped(x, chain, from, from+times))
					checkStep(t, x, chain, from, times, single)
					single = onetime.Step(single, chain, from+times, 1)
				}
			}
		}
	}
}

func TestStepsInPortions(t *testing.T) {
	for _, x := range []api.Digest{0, 9, greatest} {
		for chain := range api.Chains {
			for from := range 16 {
				for times := range 16 - from {
					for first := range times + 1 {
						middle := onetime.Step(x, chain, from, first)
						checkStep(t, middle, chain, from+first, times-first, onetime.Step(x, chain, from, times))
					}
				}
			}
		}
	}
}

// The digest, the chain, the position and the number of steps all count.
func TestStepsAreDifferent(t *testing.T) {
	seen := map[api.Digest]bool{}
	for x := range api.Digest(3) {
		for chain := range api.Chains {
			for from := range 16 {
				for times := 1; times <= 16-from; times++ {
					seen[onetime.Step(x, chain, from, times)] = true
				}
			}
		}
	}
	if want := 3 * 18 * 136; len(seen) != want {
		t.Errorf("%d different results, not %d", len(seen), want)
	}
}

// Nothing is promised of what comes out here but that it does, and that it is the same again.
func TestStepEndsWithAllNumbers(t *testing.T) {
	for _, chain := range wild() {
		for _, from := range wild() {
			for _, times := range wild() {
				got := onetime.Step(9, chain, from, times)
				if got != onetime.Step(9, chain, from, times) {
					t.Errorf("Step(9, %d, %d, %d) has two results", chain, from, times)
				}
				if times < 1 && got != 9 {
					t.Errorf("Step(9, %d, %d, %d) = %#x", chain, from, times, got)
				}
			}
		}
	}
}

// P6.2

func TestSecretsOfKnownSeeds(t *testing.T) {
	for _, c := range []struct {
		seed  api.Digest
		chain int
		want  api.Digest
	}{
		{0, 0, 0x9e81bd3013257b1d}, {0, 17, 0x9e4e279fbc20e85c}, {1, 0, 0xd1e89221bea04e09}, {5, 3, 0xb7dd82f29428e736},
		{greatest, 17, 0x2051be2d092bd9db}, {greatest, 0, 0x5a717a734e6b3c72}, {5, -1, 0x21207361cf2ee3d1},
	} {
		if got := onetime.Secret(c.seed, c.chain); got != c.want {
			t.Errorf("Secret(%#x, %d) = %#x, not %#x", c.seed, c.chain, got, c.want)
		}
	}
}

func TestSecretsAreAsDefined(t *testing.T) {
	seen := map[api.Digest]bool{}
	chains := slices.Concat(wild(), []int{2, 3, 4, 5, 6, 8, 9, 10, 11, 12, 13, 14})
	for _, seed := range seeds() {
		for _, chain := range chains {
			got := onetime.Secret(seed, chain)
			if want := secretOf(seed, chain); got != want {
				t.Errorf("Secret(%#x, %d) = %#x, not %#x", seed, chain, got, want)
			}
			seen[got] = true
		}
	}
	if want := len(seeds()) * len(chains); len(seen) != want {
		t.Errorf("%d different secrets, not %d", len(seen), want)
	}
}

func TestPublicOfKnownSeeds(t *testing.T) {
	for seed, want := range map[api.Digest]api.Digest{
		0: 0x0828acc04397fa7b, 1: 0x5d7de822b8e581e6, 5: 0x18de4116530c038f, 77: 0xa85df283cdf499bc, 1 << 63: 0xd125faae6cb80ba9, greatest: 0xb8e51fb9f55b5c74,
	} {
		if got := onetime.Public(seed); got != want {
			t.Errorf("Public(%#x) = %#x, not %#x", seed, got, want)
		}
	}
}

// The ends of all 18 chains in order: none may be left out, and no two may be exchanged.
func TestPublicIsTheListOfAllEnds(t *testing.T) {
	for _, seed := range seeds() {
		var ends []api.Digest
		for chain := range 18 {
			ends = append(ends, onetime.Step(onetime.Secret(seed, chain), chain, 0, 15))
		}
		public := onetime.Public(seed)
		if public != digest.List(ends) || public != publicOf(seed) {
			t.Errorf("Public(%#x) = %#x, not %#x", seed, public, publicOf(seed))
		}
		for i := range ends {
			if public == digest.List(slices.Delete(slices.Clone(ends), i, i+1)) {
				t.Errorf("Public(%#x) does not have the chain %d", seed, i)
			}
			ends[i], ends[0] = ends[0], ends[i]
			if i > 0 && public == digest.List(ends) {
				t.Errorf("in Public(%#x) the chains 0 and %d can be exchanged", seed, i)
			}
			ends[i], ends[0] = ends[0], ends[i]
		}
	}
}

func TestSignaturesOfKnownDigests(t *testing.T) {
	want := []api.Digest{
		0xddc91e0366f98388, 0x0244181598336dd3, 0xee8bb832c3326dec, 0xadc9fc91cf21a6d9, 0x5b5d8efecdd0d0ec, 0xdf4442a1600ff331, 0x1e885a730f267d47, 0x59a7304452ff2fbb, 0xe594f7daf19a86b3,
		0x462fcdd4e4de4df1, 0xa45064133b05488d, 0x859376aff3ed3aa4, 0x9481e43eaadc7804, 0x9ce1fa5f021ae1d6, 0x7ea9cbc2249bae10, 0x0ed63bae932f4c12, 0x9b2621233d5368cd, 0x82e1e6733d3bcfa3,
	}
	if got := onetime.Sign(77, 0x0123456789abcdef); !slices.Equal(got, want) {
		t.Errorf("Sign: %#x", got)
	}
	if got := digest.List(onetime.Sign(77, 0)); got != 0x0d1ebd13581331ab {
		t.Errorf("Sign of 0: %#x", got)
	}
	if got := digest.List(onetime.Sign(77, greatest)); got != 0x5bde9a3dd7a07cfb {
		t.Errorf("Sign of the greatest digest: %#x", got)
	}
}

// Of 0, all chains but one are at their beginning, and the first one of the complement is at its end; of the greatest digest, it is the other way about.
func TestSignaturesOfTheLeastAndTheGreatestDigest(t *testing.T) {
	for _, seed := range seeds() {
		low, high := onetime.Sign(seed, 0), onetime.Sign(seed, greatest)
		if len(low) != 18 || len(high) != 18 {
			t.Fatalf("Sign: %d and %d chains", len(low), len(high))
		}
		for chain := range 18 {
			begin := onetime.Secret(seed, chain)
			end := onetime.Step(begin, chain, 0, 15)
			if want := [2]api.Digest{begin, end}; chain < 16 && [2]api.Digest{low[chain], high[chain]} != want {
				t.Errorf("seed %#x, chain %d: %#x and %#x", seed, chain, low[chain], high[chain])
			}
			if want := [2]api.Digest{end, begin}; chain == 16 && [2]api.Digest{low[chain], high[chain]} != want {
				t.Errorf("seed %#x, chain %d: %#x and %#x", seed, chain, low[chain], high[chain])
			}
			if want := [2]api.Digest{begin, begin}; chain == 17 && [2]api.Digest{low[chain], high[chain]} != want {
				t.Errorf("seed %#x, chain %d: %#x and %#x", seed, chain, low[chain], high[chain])
			}
		}
	}
}

func TestSignHasTheStepsOfEachDigit(t *testing.T) {
	for _, seed := range seeds() {
		for _, d := range digests() {
			got := onetime.Sign(seed, d)
			if want := signatureOf(seed, d); !slices.Equal(got, want) {
				t.Errorf("Sign(%#x, %#x) = %#x, not %#x", seed, d, got, want)
			}
			for chain, digit := range onetime.Digits(d) {
				checkStep(t, onetime.Secret(seed, chain), chain, 0, digit, got[chain])
			}
		}
	}
}

// P6.3

func TestRecoverOfKnownChains(t *testing.T) {
	var numbers []api.Digest
	for i := range 18 {
		numbers = append(numbers, api.Digest(i+1))
	}
	for _, c := range []struct{ d, numbers, zeros api.Digest }{
		{0, 0xde315b95a774e7da, 0x4bb86e3b2537759a}, {greatest, 0xdf7cff6de2089f74, 0x3088de7d0ff95d99}, {0x0123456789abcdef, 0x2922a1e3b2810520, 0x2ae749db78d96dc2}, {1 << 63, 0xbfc05f5df2266ae8, 0x8dfd23abe4ab1a33},
	} {
		checkRecover(t, c.d, numbers, c.numbers)
		checkRecover(t, c.d, make([]api.Digest, 18), c.zeros)
	}
	checkRecover(t, 0x0123456789abcdef, onetime.Sign(77, 0x0123456789abcdef), 0xa85df283cdf499bc)
}

func TestRecoverIsAsDefined(t *testing.T) {
	for _, d := range digests() {
		for _, other := range digests() {
			chains := signatureOf(5, other)
			checkRecover(t, d, chains, recovered(d, chains))
		}
	}
}

// Each element goes the steps that are left, so those of the greatest digest are ends, but for those of the complement.
func TestRecoverGoesTheStepsThatAreLeft(t *testing.T) {
	for _, d := range digests() {
		var chains, ends []api.Digest
		for chain, digit := range onetime.Digits(d) {
			x := api.Digest(100 + chain)
			chains, ends = append(chains, x), append(ends, onetime.Step(x, chain, digit, 15-digit))
		}
		checkRecover(t, d, chains, digest.List(ends))
	}
}

func TestRecoverOfAnotherDigest(t *testing.T) {
	for _, seed := range seeds() {
		public := onetime.Public(seed)
		for _, d := range []api.Digest{0, 1, 1 << 63, 0x0123456789abcdef, greatest} {
			chains := onetime.Sign(seed, d)
			for _, other := range digests() {
				if got := recoverOf(t, other, chains); (got == public) != (other == d) {
					t.Errorf("seed %#x: the signature of %#x for %#x gives %#x", seed, d, other, got)
				}
			}
			for bit := range 64 {
				if recoverOf(t, d^1<<bit, chains) == public {
					t.Errorf("seed %#x: the signature of %#x fits with another bit %d", seed, d, bit)
				}
			}
		}
	}
}

func TestRecoverOfChangedElements(t *testing.T) {
	for _, d := range []api.Digest{0, 1, 1 << 63, 0x0123456789abcdef, greatest} {
		chains, public := onetime.Sign(77, d), onetime.Public(77)
		for i := range chains {
			for _, change := range []api.Digest{1, 1 << 31, 1 << 63, greatest} {
				other := slices.Clone(chains)
				other[i] ^= change
				if recoverOf(t, d, other) == public {
					t.Errorf("element %d of the signature of %#x does not count", i, d)
				}
			}
			other := slices.Clone(chains)
			other[i], other[(i+1)%18] = other[(i+1)%18], other[i]
			if recoverOf(t, d, other) == public {
				t.Errorf("element %d of the signature of %#x can be exchanged with the next one", i, d)
			}
			one := onetime.Digits(d)[i]
			if other := slices.Clone(chains); one < 15 {
				other[i] = onetime.Step(other[i], i, one, 1)
				if recoverOf(t, d, other) == public {
					t.Errorf("element %d of the signature of %#x may be one step further", i, d)
				}
			}
		}
	}
}

func TestRecoverOfWrongNumbersOfElements(t *testing.T) {
	for _, d := range []api.Digest{0, 0x0123456789abcdef, greatest} {
		chains := onetime.Sign(77, d)
		lists := [][]api.Digest{nil, {}, chains[:1], chains[:16], chains[:17], chains[1:], append(slices.Clone(chains), 0), slices.Concat(chains, chains), make([]api.Digest, 1000)}
		for _, l := range lists {
			if got, code := onetime.Recover(d, l); got != 0 || code != api.ErrForm {
				t.Errorf("Recover of %d elements: %#x, %d", len(l), got, code)
			}
		}
	}
}

// Consequences.

func TestRecoverOfSignIsPublic(t *testing.T) {
	for _, seed := range seeds() {
		for _, d := range digests() {
			checkRecover(t, d, onetime.Sign(seed, d), onetime.Public(seed))
		}
	}
}

func TestAnotherDigestHasSomeLessDigit(t *testing.T) {
	all := digests()
	for _, d := range all {
		all = append(all, d+1, d-1, d^1<<40)
	}
	for _, a := range all {
		for _, b := range all {
			first, second, less := onetime.Digits(a), onetime.Digits(b), false
			for i := range first {
				less = less || second[i] < first[i]
			}
			if less != (a != b) {
				t.Errorf("from %#x to %#x: less %t", a, b, less)
			}
		}
	}
}

// Rule 1 of DOC.md.

func TestArgumentsStayAsTheyAre(t *testing.T) {
	for _, d := range digests() {
		// The elements are a part of more.
		whole := slices.Concat([]api.Digest{1, 2, 3}, onetime.Sign(77, d), []api.Digest{4, 5, 6})
		before := slices.Clone(whole)
		for range 2 {
			checkRecover(t, d, whole[3:21], onetime.Public(77))
		}
		if _, code := onetime.Recover(d, whole[3:20]); code != api.ErrForm {
			t.Errorf("Recover of 17 elements of more: %d", code)
		}
		if !slices.Equal(whole, before) {
			t.Errorf("Recover changes the elements: %#x", whole)
		}
	}
}

// One result is overwritten, also beyond its length: no other one may change by it.
func TestResultsShareNoMemory(t *testing.T) {
	for _, d := range digests() {
		digits, again := onetime.Digits(d), onetime.Digits(d)
		chains, second := onetime.Sign(77, d), onetime.Sign(77, d)
		digits, chains = digits[:cap(digits)], chains[:cap(chains)]
		for i := range digits {
			digits[i] = -1
		}
		for i := range chains {
			chains[i] = ^chains[i]
		}
		if !slices.Equal(again, digitsOf(d)) || !slices.Equal(second, signatureOf(77, d)) {
			t.Fatalf("the results for %#x share memory", d)
		}
		checkDigits(t, d, digitsOf(d))
		checkRecover(t, d, onetime.Sign(77, d), onetime.Public(77))
	}
}
