package keyring_test

import (
	"math"
	"slices"
	"testing"

	"asyncbft/api"
	"asyncbft/digest"
	"asyncbft/keyring"
	"asyncbft/merkle"
	"asyncbft/onetime"
)

const greatest = api.Digest(math.MaxUint64)

// seedOf, leavesOf and verified are the definitions of the chapter, apart from the package.
func seedOf(seed api.Digest, key int) api.Digest {
	return digest.List([]api.Digest{seed, 9, api.Digest(uint64(key))})
}

func leafOf(key int, public api.Digest) api.Digest {
	return digest.Pair(api.Digest(uint64(key)), public)
}

func leavesOf(seed api.Digest, count int) []api.Digest {
	var l []api.Digest
	for key := 0; key < count; key++ {
		l = append(l, leafOf(key, onetime.Public(seedOf(seed, key))))
	}
	return l
}

func signatureOf(seed api.Digest, leaves []api.Digest, key int, d api.Digest) api.Signature {
	path, _ := merkle.Path(leaves, key)
	return api.Signature{Key: key, Chains: onetime.Sign(seedOf(seed, key), d), Path: path}
}

func verified(root api.Digest, count int, d api.Digest, s api.Signature) bool {
	if count < 1 || count > 64 || s.Key < 0 || s.Key > count-1 || len(s.Chains) != 18 {
		return false
	}
	public, _ := onetime.Recover(d, s.Chains)
	return merkle.Check(root, count, s.Key, leafOf(s.Key, public), s.Path)
}

func seeds() []api.Digest { return []api.Digest{0, 1, 9, 77, 1 << 32, 1 << 63, greatest} }

func digests() []api.Digest {
	return []api.Digest{0, 1, 1000, 1 << 63, 0x0123456789abcdef, 0xfedcba9876543210, greatest}
}

// counts has the least and the greatest numbers of keys, powers of two, and numbers beside them.
func counts() []int { return []int{1, 2, 3, 4, 5, 7, 8, 9, 31, 32, 33, 63, 64} }

// noCounts has numbers of keys that no ring has.
func noCounts() []int {
	return []int{0, -1, -2, -64, math.MinInt32, math.MinInt64, 65, 66, 128, 1 << 20, 1<<20 + 1, math.MaxInt32, math.MaxInt64}
}

// wild has numbers for which a key or a count is not meant, besides others.
func wild() []int {
	return slices.Concat(noCounts(), []int{1, 2, 7, 63, 64, math.MinInt64 + 1, math.MaxInt64 - 1})
}

func copyOf(s api.Signature) api.Signature {
	return api.Signature{Key: s.Key, Chains: slices.Clone(s.Chains), Path: slices.Clone(s.Path)}
}

func same(a, b api.Signature) bool {
	return a.Key == b.Key && slices.Equal(a.Chains, b.Chains) && slices.Equal(a.Path, b.Path)
}

func empty(s api.Signature) bool { return s.Key == 0 && len(s.Chains) == 0 && len(s.Path) == 0 }

// without returns the digests but one of them.
func without(l []api.Digest, i int) []api.Digest { return slices.Delete(slices.Clone(l), i, i+1) }

// with returns the digests with one more at this place.
func with(l []api.Digest, i int, d api.Digest) []api.Digest {
	return slices.Insert(slices.Clone(l), i, d)
}

func rootOf(t *testing.T, seed api.Digest, count int) api.Digest {
	t.Helper()
	root, code := keyring.Root(seed, count)
	if code != api.OK {
		t.Fatalf("Root(%#x, %d): %d", seed, count, code)
	}
	return root
}

// sign returns the signature by one key of a ring.
func sign(t *testing.T, seed api.Digest, count, key int, d api.Digest) api.Signature {
	t.Helper()
	s, next, code := keyring.Sign(api.Ring{Seed: seed, Count: count, Used: key}, d)
	if want := (api.Ring{Seed: seed, Count: count, Used: key + 1}); code != api.OK || next != want {
		t.Fatalf("Sign with the key %d of %d: %+v, %d", key, count, next, code)
	}
	return s
}

func checkVerify(t *testing.T, root api.Digest, count int, d api.Digest, s api.Signature, want bool) {
	t.Helper()
	if got := keyring.Verify(root, count, d, s); got != want {
		t.Errorf("Verify(%#x, %d, %#x, %+v) = %t", root, count, d, s, got)
	}
}

func checkRefused(t *testing.T, r api.Ring, d api.Digest, want api.Errno) {
	t.Helper()
	if s, next, code := keyring.Sign(r, d); code != want || next != r || !empty(s) {
		t.Errorf("Sign(%+v, %#x) = %+v, %+v, %d, not %d", r, d, s, next, code, want)
	}
}

// P7.1

// The numbers here and below were computed by a program apart from this one.
func TestSeedsOfKnownKeys(t *testing.T) {
	for _, c := range []struct {
		seed api.Digest
		key  int
		want api.Digest
	}{
		{0, 0, 0xe89d163a2f436344}, {0, 63, 0x33626e6253a73c26}, {4, 2, 0x2174ff0bd59c805c}, {77, 0, 0x380d818ee52ce745}, {77, 1, 0xe8087f232501b733},
		{77, 63, 0x6a173cc75f33886d}, {1 << 63, 5, 0x01e30c86e0bf818f}, {greatest, 0, 0xfb61d372c1b6090c}, {greatest, 63, 0xea0195f0f096e977}, {5, -1, 0x5ace68a2fbfe6c78},
	} {
		if got := keyring.Seed(c.seed, c.key); got != c.want {
			t.Errorf("Seed(%#x, %d) = %#x, not %#x", c.seed, c.key, got, c.want)
		}
	}
}

func TestSeedsAreAsDefinedAndDifferent(t *testing.T) {
	seen := map[api.Digest]bool{}
	for _, seed := range seeds() {
		for key := range 64 {
			got := keyring.Seed(seed, key)
			if want := seedOf(seed, key); got != want {
				t.Errorf("Seed(%#x, %d) = %#x, not %#x", seed, key, got, want)
			}
			seen[got] = true
		}
	}
	if want := 64 * len(seeds()); len(seen) != want {
		t.Errorf("%d different seeds, not %d", len(seen), want)
	}
	for _, key := range wild() {
		if got, want := keyring.Seed(77, key), seedOf(77, key); got != want {
			t.Errorf("Seed(77, %d) = %#x, not %#x", key, got, want)
		}
	}
}

func TestRootsOfKnownRings(t *testing.T) {
	for _, c := range []struct {
		seed  api.Digest
		count int
		want  api.Digest
	}{
		{0, 1, 0x810b8cc21e980f1a}, {77, 1, 0x89a41438d3117b22}, {77, 2, 0x1fb7f55469b4db2e}, {77, 3, 0xdf432c604677a7e1}, {77, 7, 0xab0004ed94501880},
		{77, 63, 0x17286e39d5b8acc8}, {77, 64, 0xbbf2406ebead67d1}, {0, 64, 0x6346124857e288a2}, {greatest, 64, 0xd81e24628a2f5abb}, {1 << 63, 5, 0x13f33e420f998f65},
	} {
		if got := rootOf(t, c.seed, c.count); got != c.want {
			t.Errorf("Root(%#x, %d) = %#x, not %#x", c.seed, c.count, got, c.want)
		}
	}
}

func TestRootIsThatOfAllLeaves(t *testing.T) {
	for _, seed := range seeds() {
		leaves, seen := leavesOf(seed, 64), map[api.Digest]bool{}
		for count := 1; count <= api.MaxKeys; count++ {
			got := rootOf(t, seed, count)
			if want := merkle.Root(leaves[:count]); got != want {
				t.Errorf("Root(%#x, %d) = %#x, not %#x", seed, count, got, want)
			}
			seen[got] = true
		}
		if len(seen) != api.MaxKeys {
			t.Errorf("%d different roots of the seed %#x", len(seen), seed)
		}
	}
}

// With one key the root is its leaf, with two keys the pair of their leaves.
func TestRootOfOneAndOfTwoKeys(t *testing.T) {
	for _, seed := range seeds() {
		first := digest.Pair(0, onetime.Public(keyring.Seed(seed, 0)))
		second := digest.Pair(1, onetime.Public(keyring.Seed(seed, 1)))
		if got := rootOf(t, seed, 1); got != first {
			t.Errorf("Root(%#x, 1) = %#x, not %#x", seed, got, first)
		}
		if got := rootOf(t, seed, 2); got != digest.Pair(first, second) {
			t.Errorf("Root(%#x, 2) = %#x, not %#x", seed, got, digest.Pair(first, second))
		}
	}
}

func TestRootOfWrongNumbersOfKeys(t *testing.T) {
	for _, seed := range seeds() {
		for _, count := range noCounts() {
			if got, code := keyring.Root(seed, count); got != 0 || code != api.ErrRange {
				t.Errorf("Root(%#x, %d) = %#x, %d", seed, count, got, code)
			}
		}
	}
}

// P7.2

func TestSignaturesOfKnownKeys(t *testing.T) {
	for _, c := range []struct {
		seed       api.Digest
		count, key int
		d, chains  api.Digest
		path       []api.Digest
	}{
		{77, 1, 0, 0x0123456789abcdef, 0x96676d60ce015762, nil},
		{77, 7, 0, 0x0123456789abcdef, 0x96676d60ce015762, []api.Digest{0x1a6a735020e6ca55, 0x7ba13e8814a6d77e, 0x9d14a28d7e2b91f8}},
		{77, 7, 3, 0, 0xba20e10650489af6, []api.Digest{0xc6e42e79130ced8c, 0x1fb7f55469b4db2e, 0x9d14a28d7e2b91f8}},
		{77, 7, 6, greatest, 0xc1ed331d6ab58ed8, []api.Digest{0xb3ec91334b9b09d6, 0xae69a672eab53223}},
		{77, 64, 0, 5, 0x6c01b6dd918ef0d1, []api.Digest{0x1a6a735020e6ca55, 0x7ba13e8814a6d77e, 0xd2f3449ddf12238c, 0x22857984a2a979b7, 0xff794b1fe59c1831, 0x1ddda4da61f82c2f}},
		{77, 64, 40, 5, 0x6768f8edc68b199d, []api.Digest{0x86e4d1e9153d4d28, 0xd91a072acf018912, 0x50e7c9661d1c99b2, 0xf82a4b6bed0590d6, 0x7fa133ee16d829d6, 0x56a152803d4e19e3}},
		{77, 64, 63, 5, 0x9edc059ecc143a38, []api.Digest{0x3ced9946f6fe4e28, 0x8af06df52e4fd585, 0x2f4187fab92405ca, 0xd38d48c1ea08417e, 0x0ea97c7ed23bfe3d, 0x56a152803d4e19e3}},
		{greatest, 5, 4, 1 << 63, 0x6a476a4b8e16646e, []api.Digest{0x98f9762ff4e2d74d}},
	} {
		s := sign(t, c.seed, c.count, c.key, c.d)
		if s.Key != c.key || digest.List(s.Chains) != c.chains || !slices.Equal(s.Path, c.path) {
			t.Errorf("the key %d of %d signs with %+v", c.key, c.count, s)
		}
	}
}

// From the first key to the last one, Used rises by 1; then there is no key left.
func TestSignWithEachKeyInOrder(t *testing.T) {
	for _, seed := range []api.Digest{0, 77, greatest} {
		for _, count := range counts() {
			leaves, ring := leavesOf(seed, count), api.Ring{Seed: seed, Count: count}
			for key := range count {
				d := digest.Of([]byte{byte(count), byte(key)})
				s, next, code := keyring.Sign(ring, d)
				if want := signatureOf(seed, leaves, key, d); code != api.OK || !same(s, want) {
					t.Errorf("the key %d of %d signs with %+v, %d, not %+v", key, count, s, code, want)
				}
				if want := (api.Ring{Seed: seed, Count: count, Used: key + 1}); next != want {
					t.Fatalf("after the key %d: %+v, not %+v", key, next, want)
				}
				ring = next
			}
			checkRefused(t, ring, 5, api.ErrUsed)
		}
	}
}

func TestSignEachDigest(t *testing.T) {
	for _, seed := range seeds() {
		leaves := leavesOf(seed, 9)
		for _, key := range []int{0, 1, 4, 7, 8} {
			for _, d := range digests() {
				if got, want := sign(t, seed, 9, key, d), signatureOf(seed, leaves, key, d); !same(got, want) {
					t.Errorf("seed %#x, key %d, digest %#x: %+v, not %+v", seed, key, d, got, want)
				}
			}
		}
	}
}

// The path is that of this key's leaf in the tree of all keys, also of those that are used.
func TestPathIsThatOfTheLeafOfTheKey(t *testing.T) {
	for _, count := range counts() {
		leaves := leavesOf(77, count)
		for _, key := range []int{0, count / 2, count - 1} {
			s := sign(t, 77, count, key, 5)
			if len(s.Path) != merkle.Depth(count, key) || !merkle.Check(merkle.Root(leaves), count, key, leaves[key], s.Path) {
				t.Errorf("the path of the key %d of %d is %#x", key, count, s.Path)
			}
		}
	}
}

func TestSignWithWrongNumbersOfKeys(t *testing.T) {
	for _, count := range noCounts() {
		// Used is in any relation to Count: the number of keys comes first.
		for _, used := range append(wild(), count, count-1, count+1) {
			checkRefused(t, api.Ring{Seed: 77, Count: count, Used: used}, 5, api.ErrRange)
		}
	}
}

func TestSignWithUsedLessThanNone(t *testing.T) {
	for _, count := range counts() {
		for _, used := range []int{-1, -2, -count, -count - 1, -64, -65, math.MinInt32, math.MinInt64} {
			checkRefused(t, api.Ring{Seed: 77, Count: count, Used: used}, 5, api.ErrRange)
		}
	}
}

func TestSignWithAllKeysUsed(t *testing.T) {
	for _, count := range counts() {
		for _, used := range []int{count, count + 1, 2 * count, 64, 65, 99, math.MaxInt32, math.MaxInt64} {
			checkRefused(t, api.Ring{Seed: 77, Count: count, Used: used}, 5, api.ErrUsed)
		}
	}
}

func TestErrorsOfSignInOrder(t *testing.T) {
	for _, c := range []struct {
		ring api.Ring
		want api.Errno
	}{
		{api.Ring{}, api.ErrRange}, {api.Ring{Count: 0, Used: 1}, api.ErrRange}, {api.Ring{Count: -1, Used: -1}, api.ErrRange}, {api.Ring{Count: 65, Used: 65}, api.ErrRange},
		{api.Ring{Count: 65, Used: 64}, api.ErrRange}, {api.Ring{Count: 64, Used: -1}, api.ErrRange}, {api.Ring{Count: 64, Used: 64}, api.ErrUsed}, {api.Ring{Count: 64, Used: 63}, api.OK},
		{api.Ring{Count: 1, Used: 1}, api.ErrUsed}, {api.Ring{Count: 1, Used: 0}, api.OK}, {api.Ring{Count: 2, Used: 1}, api.OK},
	} {
		if c.want != api.OK {
			checkRefused(t, c.ring, 0, c.want)
		} else if _, _, code := keyring.Sign(c.ring, 0); code != api.OK {
			t.Errorf("Sign(%+v): %d", c.ring, code)
		}
	}
}

// P7.3

func TestVerifyEachKeyOfARing(t *testing.T) {
	for _, seed := range []api.Digest{0, 77, greatest} {
		leaves := leavesOf(seed, 64)
		for _, count := range counts() {
			root := merkle.Root(leaves[:count])
			for key := range count {
				for _, d := range []api.Digest{0, 0x0123456789abcdef, greatest} {
					checkVerify(t, root, count, d, signatureOf(seed, leaves[:count], key, d), true)
				}
			}
		}
	}
}

// Every number but that of the key itself is refused, in range or not.
func TestVerifyWithAnotherKey(t *testing.T) {
	for _, count := range counts() {
		leaves := leavesOf(77, count)
		root := merkle.Root(leaves)
		for _, key := range []int{0, count / 2, count - 1} {
			s := signatureOf(77, leaves, key, 5)
			for _, other := range append(wild(), -1, key-1, key+1, key+64, key-64, count, count+1, 0, count-1) {
				if other != key {
					checkVerify(t, root, count, 5, api.Signature{Key: other, Chains: s.Chains, Path: s.Path}, false)
				}
			}
			for other := range count {
				checkVerify(t, root, count, 5, api.Signature{Key: other, Chains: s.Chains, Path: s.Path}, other == key)
			}
		}
	}
}

// A path may be as long in trees of different sizes, so the answer for another count is that of the definition.
func TestVerifyWithAnotherCount(t *testing.T) {
	for _, count := range counts() {
		leaves := leavesOf(77, count)
		root := merkle.Root(leaves)
		for _, key := range []int{0, count / 2, count - 1} {
			s := signatureOf(77, leaves, key, 5)
			for other := range 70 {
				checkVerify(t, root, other, 5, s, verified(root, other, 5, s))
			}
			for _, other := range append(noCounts(), key, key-1) {
				checkVerify(t, root, other, 5, s, false)
			}
			checkVerify(t, root, count, 5, s, true)
		}
	}
}

// Trees of more leaves than a ring may have keys: all would fit but for the count.
func TestVerifyWithMoreKeysThanARingMayHave(t *testing.T) {
	for _, count := range []int{64, 65, 66, 100, 128, 1000} {
		leaves := leavesOf(77, count)
		root := merkle.Root(leaves)
		for _, key := range []int{0, 1, 63, count - 1} {
			s := signatureOf(77, leaves, key, 5)
			if !merkle.Check(root, count, key, leaves[key], s.Path) {
				t.Fatalf("the leaf %d of %d does not fit", key, count)
			}
			checkVerify(t, root, count, 5, s, count == 64)
		}
	}
}

func TestVerifyOfAnotherDigest(t *testing.T) {
	root := rootOf(t, 77, 5)
	for key := range 5 {
		for _, d := range digests() {
			s := sign(t, 77, 5, key, d)
			for _, other := range digests() {
				checkVerify(t, root, 5, other, s, other == d)
			}
			for bit := range 64 {
				checkVerify(t, root, 5, d^1<<bit, s, false)
			}
		}
	}
}

func TestVerifyWithAnotherRoot(t *testing.T) {
	for _, seed := range seeds() {
		for key := range 5 {
			s := sign(t, seed, 5, key, 1000)
			root := rootOf(t, seed, 5)
			for bit := range 64 {
				checkVerify(t, root^1<<bit, 5, 1000, s, false)
			}
			for _, other := range []api.Digest{0, root + 1, root - 1, ^root, rootOf(t, seed, 6), rootOf(t, seed, 4)} {
				checkVerify(t, other, 5, 1000, s, false)
			}
			for _, other := range seeds() {
				checkVerify(t, rootOf(t, other, 5), 5, 1000, s, other == seed)
			}
		}
	}
}

func TestVerifyWithOneChangedChain(t *testing.T) {
	for _, count := range []int{1, 2, 7, 64} {
		root := rootOf(t, 77, count)
		for _, key := range []int{0, count / 2, count - 1} {
			for _, d := range digests() {
				s := sign(t, 77, count, key, d)
				for i, digit := range onetime.Digits(d) {
					for _, change := range []api.Digest{1, 1 << 31, 1 << 63, greatest} {
						x := copyOf(s)
						x.Chains[i] ^= change
						checkVerify(t, root, count, d, x, false)
					}
					x := copyOf(s)
					x.Chains[i] = onetime.Step(x.Chains[i], i, digit, 1)
					checkVerify(t, root, count, d, x, false)
					x = copyOf(s)
					x.Chains[i], x.Chains[(i+1)%18] = x.Chains[(i+1)%18], x.Chains[i]
					checkVerify(t, root, count, d, x, false)
				}
			}
		}
	}
}

func TestVerifyWithOneChangedElementOfThePath(t *testing.T) {
	for _, count := range counts() {
		root := rootOf(t, 77, count)
		for key := range count {
			s := sign(t, 77, count, key, 1000)
			for i := range s.Path {
				for _, change := range []api.Digest{1, 1 << 31, 1 << 63, greatest} {
					x := copyOf(s)
					x.Path[i] ^= change
					checkVerify(t, root, count, 1000, x, false)
				}
				if other := (i + 1) % len(s.Path); other != i {
					x := copyOf(s)
					x.Path[i], x.Path[other] = x.Path[other], x.Path[i]
					checkVerify(t, root, count, 1000, x, false)
				}
			}
		}
	}
}

func TestVerifyWithWrongNumbersOfChains(t *testing.T) {
	for _, count := range []int{1, 2, 7, 64} {
		root := rootOf(t, 77, count)
		for _, key := range []int{0, count / 2, count - 1} {
			for _, d := range []api.Digest{0, 0x0123456789abcdef, greatest} {
				s := sign(t, 77, count, key, d)
				lists := [][]api.Digest{nil, {}, s.Chains[:1], s.Chains[:16], slices.Concat(s.Chains, s.Chains), make([]api.Digest, 1000)}
				for i := range 18 {
					lists = append(lists, without(s.Chains, i), with(s.Chains, i, 0), with(s.Chains, i, s.Chains[i]))
				}
				for _, l := range append(lists, with(s.Chains, 18, 0), with(s.Chains, 18, s.Chains[17])) {
					checkVerify(t, root, count, d, api.Signature{Key: key, Chains: l, Path: s.Path}, false)
				}
			}
		}
	}
}

func TestVerifyWithWrongLengthsOfThePath(t *testing.T) {
	for _, count := range counts() {
		root := rootOf(t, 77, count)
		for key := range count {
			s := sign(t, 77, count, key, 1000)
			lists := [][]api.Digest{with(s.Path, 0, 0), with(s.Path, len(s.Path), 0), with(s.Path, 0, root), with(s.Path, len(s.Path), root), make([]api.Digest, 64), make([]api.Digest, 1000)}
			for i := range s.Path {
				lists = append(lists, without(s.Path, i), with(s.Path, i, s.Path[i]))
			}
			if count > 1 {
				lists = append(lists, nil)
			}
			for _, l := range lists {
				checkVerify(t, root, count, 1000, api.Signature{Key: key, Chains: s.Chains, Path: l}, false)
			}
		}
	}
}

// What cannot be recovered leads to no leaf, not to that of the digest 0 or of what a list of fewer chains is.
func TestVerifyWithRootsMadeForWrongChains(t *testing.T) {
	for _, chains := range [][]api.Digest{nil, {}, make([]api.Digest, 17), make([]api.Digest, 19)} {
		for _, public := range []api.Digest{0, digest.List(nil), digest.List(chains)} {
			first, second := digest.Pair(0, public), digest.Pair(1, public)
			checkVerify(t, first, 1, 5, api.Signature{Chains: chains}, false)
			checkVerify(t, digest.Pair(first, second), 2, 5, api.Signature{Key: 1, Chains: chains, Path: []api.Digest{first}}, false)
		}
	}
	for _, count := range []int{0, 1, 2, 64, 65} {
		for _, d := range digests() {
			checkVerify(t, 0, count, d, api.Signature{}, false)
		}
	}
}

// Any chains fit some root: it is the leaf of the key that counts, with its number.
func TestVerifyWithRootsMadeForAnyChains(t *testing.T) {
	for _, d := range digests() {
		for _, chains := range [][]api.Digest{make([]api.Digest, 18), onetime.Sign(5, 77), slices.Repeat([]api.Digest{greatest}, 18)} {
			public, _ := onetime.Recover(d, chains)
			checkVerify(t, digest.Pair(0, public), 1, d, api.Signature{Chains: chains}, true)
			checkVerify(t, public, 1, d, api.Signature{Chains: chains}, false)
			checkVerify(t, digest.Pair(1, public), 1, d, api.Signature{Chains: chains}, false)
			checkVerify(t, digest.Pair(public, 0), 1, d, api.Signature{Chains: chains}, false)
			checkVerify(t, digest.Pair(9, digest.Pair(1, public)), 2, d, api.Signature{Key: 1, Chains: chains, Path: []api.Digest{9}}, true)
			checkVerify(t, digest.Pair(digest.Pair(1, public), 9), 2, d, api.Signature{Key: 1, Chains: chains, Path: []api.Digest{9}}, false)
		}
	}
}

func TestVerifyIsAsDefined(t *testing.T) {
	rings := []struct {
		seed  api.Digest
		count int
	}{{77, 1}, {77, 2}, {77, 5}, {5, 5}, {77, 8}}
	var all []api.Signature
	for _, r := range rings {
		for key := range r.count {
			all = append(all, sign(t, r.seed, r.count, key, 1000))
		}
	}
	for _, r := range rings {
		root := rootOf(t, r.seed, r.count)
		for _, s := range all {
			for _, d := range []api.Digest{1000, 1001} {
				for count := -1; count <= 9; count++ {
					checkVerify(t, root, count, d, s, verified(root, count, d, s))
				}
			}
		}
	}
}

// Consequences.

func TestWhatARingSignsIsVerifiedWithItsRoot(t *testing.T) {
	for _, seed := range seeds() {
		for _, count := range []int{1, 2, 3, 6, 64} {
			root, ring := rootOf(t, seed, count), api.Ring{Seed: seed, Count: count}
			for i := 0; ; i++ {
				d := digests()[i%len(digests())]
				s, next, code := keyring.Sign(ring, d)
				if code != api.OK {
					if i != count || code != api.ErrUsed {
						t.Errorf("%d signatures with %d keys, then %d", i, count, code)
					}
					break
				}
				checkVerify(t, root, count, d, s, true)
				ring = next
			}
		}
	}
}

func TestNoKeySignsTwice(t *testing.T) {
	for _, count := range counts() {
		ring, seen := api.Ring{Seed: 77, Count: count}, map[int]bool{}
		// The same digest again and again, more often than there are keys.
		for range count + 3 {
			s, next, code := keyring.Sign(ring, 1000)
			if code == api.OK && (seen[s.Key] || next == ring) {
				t.Errorf("the key %d of %d signs twice", s.Key, count)
			}
			if code == api.OK {
				seen[s.Key] = true
			}
			ring = next
		}
		if len(seen) != count || ring.Used != count {
			t.Errorf("%d of %d keys have signed, and the ring is %+v", len(seen), count, ring)
		}
	}
}

// P1: nothing is promised of what comes out here but that it does, and that it is the same again.

func TestAllNumbersHaveAnEnd(t *testing.T) {
	lists := [][]api.Digest{nil, {}, {1}, make([]api.Digest, 18), make([]api.Digest, 100)}
	for _, count := range wild() {
		for _, key := range wild() {
			first, ring, code := keyring.Sign(api.Ring{Seed: 9, Count: count, Used: key}, 5)
			second, otherRing, otherCode := keyring.Sign(api.Ring{Seed: 9, Count: count, Used: key}, 5)
			if !same(first, second) || ring != otherRing || code != otherCode {
				t.Errorf("Sign with the key %d of %d has two results", key, count)
			}
			for _, chains := range lists {
				for _, path := range lists {
					checkVerify(t, 3, count, 5, api.Signature{Key: key, Chains: chains, Path: path}, false)
				}
			}
		}
	}
}

// Rule 1 of DOC.md.

func TestArgumentsStayAsTheyAre(t *testing.T) {
	for _, count := range []int{1, 2, 7, 64} {
		root := rootOf(t, 77, count)
		for _, key := range []int{0, count - 1} {
			s := sign(t, 77, count, key, 5)
			// Chains and path are parts of more, beside each other.
			whole := slices.Concat([]api.Digest{1, 2, 3}, s.Chains, []api.Digest{4}, s.Path, []api.Digest{5, 6})
			before := slices.Clone(whole)
			x := api.Signature{Key: key, Chains: whole[3:21], Path: whole[22 : 22+len(s.Path)]}
			for range 2 {
				checkVerify(t, root, count, 5, x, true)
				checkVerify(t, root, count, 6, x, false)
			}
			if !slices.Equal(whole, before) {
				t.Errorf("Verify changes the signature: %#x", whole)
			}
		}
	}
	ring := api.Ring{Seed: 77, Count: 3, Used: 1}
	if _, _, code := keyring.Sign(ring, 5); code != api.OK || ring != (api.Ring{Seed: 77, Count: 3, Used: 1}) {
		t.Errorf("Sign changes the ring: %+v, %d", ring, code)
	}
}

// One result is overwritten, also beyond its length: neither its other list nor another result may change by it.
func TestResultsShareNoMemory(t *testing.T) {
	for _, count := range []int{1, 2, 7, 64} {
		want := signatureOf(77, leavesOf(77, count), 0, 5)
		first, second := sign(t, 77, count, 0, 5), sign(t, 77, count, 0, 5)
		overwrite(first.Chains)
		if !slices.Equal(first.Path, want.Path) {
			t.Errorf("%d keys: chains and path share memory", count)
		}
		overwrite(first.Path)
		if !same(second, want) || !same(sign(t, 77, count, 0, 5), want) {
			t.Errorf("%d keys: two results share memory", count)
		}
	}
}

func overwrite(l []api.Digest) {
	l = l[:cap(l)]
	for i := range l {
		l[i] = ^l[i]
	}
}
