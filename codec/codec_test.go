package codec_test

import (
	"bytes"
	"encoding/binary"
	"fmt"
	"math"
	"math/big"
	"math/rand"
	"slices"
	"strings"
	"testing"

	"asyncbft/api"
	"asyncbft/codec"
	"asyncbft/digest"
)

// numberOf, stringOf, digestOf, listOf and frameOf are the definitions of the chapter, apart from the package, with numbers of any length.
func numberOf(n int) []byte {
	u := new(big.Int).Mul(big.NewInt(2), big.NewInt(int64(n)))
	if n < 0 {
		u.Sub(u.Neg(u), big.NewInt(1))
	}
	var b []byte
	for _, digit := range digits(u) {
		b = append(b, digit+128)
	}
	b[len(b)-1] -= 128
	return b
}

// digits returns a number in the system with the base 128, the lowest digit first.
func digits(u *big.Int) []byte {
	l := []byte{byte(new(big.Int).Mod(u, big.NewInt(128)).Int64())}
	if rest := new(big.Int).Div(u, big.NewInt(128)); rest.Sign() > 0 {
		l = append(l, digits(rest)...)
	}
	return l
}

func stringOf(data string) []byte { return append(numberOf(len(data)), data...) }

func digestOf(d api.Digest) []byte { return binary.BigEndian.AppendUint64(nil, uint64(d)) }

func listOf(l []string) []byte {
	b := numberOf(len(l))
	for _, s := range l {
		b = append(b, stringOf(s)...)
	}
	return b
}

func frameOf(data string) []byte {
	return append(stringOf(data), digestOf(digest.Of([]byte(data)))...)
}

// The functions from intAt to frameAt read as the chapter defines it, apart from the package. They find the last byte of a number first.
func intAt(b []byte, at int) (int, int, api.Errno) {
	if at < 0 || at > len(b) {
		return 0, at, api.ErrRange
	}
	rest := b[at:]
	end := slices.IndexFunc(rest, func(x byte) bool { return x < 128 })
	if len(rest) >= 10 && (end < 0 || end >= 9) && rest[9] > 1 {
		return 0, at, api.ErrForm
	}
	if end < 0 {
		return 0, at, api.ErrMissing
	}
	if end > 0 && rest[end] == 0 {
		return 0, at, api.ErrForm
	}
	u := new(big.Int)
	for i := end; i >= 0; i-- {
		u.Add(u.Mul(u, big.NewInt(128)), big.NewInt(int64(rest[i]%128)))
	}
	half, odd := new(big.Int).DivMod(u, big.NewInt(2), new(big.Int))
	if odd.Sign() > 0 {
		half.Neg(half.Add(half, big.NewInt(1)))
	}
	return int(half.Int64()), at + end + 1, api.OK
}

func bytesAt(b []byte, at int) ([]byte, int, api.Errno) {
	length, start, code := intAt(b, at)
	switch {
	case code != api.OK:
		return nil, at, code
	case length < 0:
		return nil, at, api.ErrForm
	case length > len(b) || start+length > len(b):
		return nil, at, api.ErrMissing
	}
	return b[start : start+length], start + length, api.OK
}

func digestAt(b []byte, at int) (api.Digest, int, api.Errno) {
	if at < 0 || at > len(b) {
		return 0, at, api.ErrRange
	}
	if len(b)-at < 8 {
		return 0, at, api.ErrMissing
	}
	return api.Digest(binary.BigEndian.Uint64(b[at:])), at + 8, api.OK
}

func listAt(b []byte, at int) ([]string, int, api.Errno) {
	count, next, code := intAt(b, at)
	if code == api.OK && count < 0 {
		code = api.ErrForm
	}
	var l []string
	for code == api.OK && len(l) < count {
		var s []byte
		s, next, code = bytesAt(b, next)
		l = append(l, string(s))
	}
	if code != api.OK {
		return nil, at, code
	}
	return l, next, api.OK
}

func frameAt(b []byte, at int) ([]byte, int, api.Errno) {
	data, next, code := bytesAt(b, at)
	if code != api.OK {
		return nil, at, code
	}
	d, next, code := digestAt(b, next)
	if code != api.OK {
		return nil, at, code
	}
	if d != digest.Of(data) {
		return nil, at, api.ErrDigest
	}
	return data, next, api.OK
}

// text returns a value as text in which nil and empty are the same.
func text(value any) string {
	switch value.(type) {
	case int, api.Digest:
		return fmt.Sprintf("%d", value)
	}
	return fmt.Sprintf("%q", value)
}

// result is what a reading function returns, with the value as text.
type result struct {
	value string
	next  int
	code  api.Errno
}

// kind is one of the five kinds of values: how it is read, how the chapter reads it, its zero value, and how what was read is written.
type kind struct {
	name       string
	read, want func(b []byte, at int) result
	none       string
	again      func(b []byte, at int) []byte
}

func kindOf[T any](name string, read, want func([]byte, int) (T, int, api.Errno), write func(T) []byte) kind {
	textOf := func(read func([]byte, int) (T, int, api.Errno)) func([]byte, int) result {
		return func(b []byte, at int) result {
			value, next, code := read(b, at)
			return result{text(value), next, code}
		}
	}
	again := func(b []byte, at int) []byte {
		value, _, _ := read(b, at)
		return write(value)
	}
	var none T
	return kind{name, textOf(read), textOf(want), text(none), again}
}

func kinds() []kind {
	return []kind{
		kindOf("Int", codec.Int, intAt, func(n int) []byte { return codec.PutInt(nil, n) }),
		kindOf("Bytes", codec.Bytes, bytesAt, func(data []byte) []byte { return codec.PutBytes(nil, data) }),
		kindOf("Digest", codec.Digest, digestAt, func(d api.Digest) []byte { return codec.PutDigest(nil, d) }),
		kindOf("List", codec.List, listAt, func(l []string) []byte { return codec.PutList(nil, l) }),
		kindOf("Unframe", codec.Unframe, frameAt, codec.Frame),
	}
}

// kindNamed returns the kind that is read by the function with this name.
func kindNamed(name string) kind {
	l := kinds()
	return l[slices.IndexFunc(l, func(k kind) bool { return k.name == name })]
}

// check compares what is read at a position with what the chapter says.
func (k kind) check(t *testing.T, b []byte, at int) {
	t.Helper()
	if got, want := k.read(b, at), k.want(b, at); got != want {
		t.Errorf("%s(%v, %d) = %v, not %v", k.name, b, at, got, want)
	}
}

// refused checks that reading has this error, the position at and the zero value.
func (k kind) refused(t *testing.T, b []byte, at int, code api.Errno) {
	t.Helper()
	if got, want := k.read(b, at), (result{k.none, at, code}); got != want {
		t.Errorf("%s(%v, %d) = %v, not %v", k.name, b, at, got, want)
	}
}

// sample is a value of one kind, written, and its text.
type sample struct {
	kind    kind
	written []byte
	value   string
}

// samples has values of all kinds; what is written of each is the chapter's, not the package's.
func samples() []sample {
	var l []sample
	for _, n := range numbers() {
		l = append(l, sample{kindNamed("Int"), numberOf(n), text(n)})
	}
	for _, s := range strs() {
		l = append(l, sample{kindNamed("Bytes"), stringOf(s), text([]byte(s))})
		l = append(l, sample{kindNamed("Unframe"), frameOf(s), text([]byte(s))})
	}
	for _, d := range digests() {
		l = append(l, sample{kindNamed("Digest"), digestOf(d), text(d)})
	}
	for _, x := range lists() {
		l = append(l, sample{kindNamed("List"), listOf(x), text(x)})
	}
	return l
}

// changes has the numbers around each change of the number of bytes: the greatest and the least with so many, and the next ones.
func changes() []int {
	var l []int
	for size := 1; size <= 9; size++ {
		half := 1 << (7*size - 1)
		l = append(l, half-1, half, -half, -half-1)
	}
	return l
}

func numbers() []int {
	l := []int{0, 1, -1, 2, -2, 63, 64, -64, -65, 100, -100, math.MaxInt64, math.MinInt64, math.MaxInt64 - 1, math.MinInt64 + 1}
	for i := range 63 {
		l = append(l, 1<<i, 1<<i-1, 1<<i+1, -1<<i, -1<<i-1, -1<<i+1)
	}
	return append(l, changes()...)
}

// all is a string with each byte.
func all() string {
	b := make([]byte, 256)
	for i := range b {
		b[i] = byte(i)
	}
	return string(b)
}

// strs has strings whose lengths have one, two and three bytes, such as are no text, and such as look like numbers.
func strs() []string {
	return []string{"", "\x00", "a", "abc", "\xff\xfe\x80", "\x80\x00", "1234567", "12345678", "123456789", strings.Repeat("x", 63), strings.Repeat("y", 64), all(), strings.Repeat("z", 8191), strings.Repeat("\x00", 8192)}
}

func digests() []api.Digest {
	return []api.Digest{0, 1, 255, 256, 0x0102030405060708, 1 << 63, 0xfedcba9876543210, math.MaxUint64}
}

func lists() [][]string {
	return [][]string{nil, {}, {""}, {"", ""}, {"a"}, {"", "xy"}, {"xy", ""}, {"a", "a", "a"}, {"\x80", "\xff\x00"}, strs(), make([]string, 63), make([]string, 64), slices.Repeat([]string{"ab"}, 100)}
}

// befores has what may be there before something is appended.
func befores() [][]byte {
	return [][]byte{nil, {}, {0}, {9}, {128}, {255, 255}, []byte("behind"), []byte(all())}
}

// wild has positions that are in hardly any slice.
func wild() []int {
	return []int{-1, -2, -8, math.MinInt32, math.MinInt64, math.MinInt64 + 1, math.MaxInt32, 1 << 32, 1 << 62, math.MaxInt64 - 1, math.MaxInt64}
}

// put is one of the appending functions with what it appends.
type put struct {
	name string
	put  func(b []byte) []byte
	want []byte
}

func puts() []put {
	var l []put
	for _, n := range numbers() {
		l = append(l, put{fmt.Sprint("PutInt ", n), func(b []byte) []byte { return codec.PutInt(b, n) }, numberOf(n)})
	}
	for _, s := range strs() {
		l = append(l, put{fmt.Sprintf("PutBytes %q", s), func(b []byte) []byte { return codec.PutBytes(b, []byte(s)) }, stringOf(s)})
	}
	l = append(l, put{"PutBytes nil", func(b []byte) []byte { return codec.PutBytes(b, nil) }, []byte{0}})
	for _, d := range digests() {
		l = append(l, put{fmt.Sprint("PutDigest ", d), func(b []byte) []byte { return codec.PutDigest(b, d) }, digestOf(d)})
	}
	for _, x := range lists() {
		l = append(l, put{fmt.Sprintf("PutList %q", x), func(b []byte) []byte { return codec.PutList(b, x) }, listOf(x)})
	}
	return l
}

// overwrite changes all bytes of a slice, also those behind its length.
func overwrite(b []byte) {
	b = b[:cap(b)]
	for i := range b {
		b[i] ^= 0x55
	}
}

// inside returns a slice with these bytes that is a part of a larger one, and the larger one.
func inside(b []byte) ([]byte, []byte) {
	whole := slices.Concat(bytes.Repeat([]byte{0xa7}, 5), b, bytes.Repeat([]byte{0x6d}, 300))
	return whole[5 : 5+len(b)], whole
}

// P8.1

// The bytes here and below were computed by a program apart from this one.
func TestKnownNumbers(t *testing.T) {
	for _, x := range []struct {
		n    int
		want []byte
	}{
		{0, []byte{0}}, {1, []byte{2}}, {-1, []byte{1}}, {2, []byte{4}}, {-2, []byte{3}},
		{63, []byte{126}}, {-63, []byte{125}}, {64, []byte{128, 1}}, {-64, []byte{127}}, {65, []byte{130, 1}}, {-65, []byte{129, 1}},
		{100, []byte{200, 1}}, {-100, []byte{199, 1}}, {127, []byte{254, 1}}, {128, []byte{128, 2}}, {-128, []byte{255, 1}},
		{300, []byte{216, 4}}, {-1000, []byte{207, 15}},
		{8191, []byte{254, 127}}, {8192, []byte{128, 128, 1}}, {-8192, []byte{255, 127}}, {-8193, []byte{129, 128, 1}},
		{1048575, []byte{254, 255, 127}}, {1048576, []byte{128, 128, 128, 1}},
		{-1048576, []byte{255, 255, 127}}, {-1048577, []byte{129, 128, 128, 1}},
		{1234567890123456789, []byte{170, 132, 204, 222, 143, 189, 136, 162, 34}},
		{-1234567890123456789, []byte{169, 132, 204, 222, 143, 189, 136, 162, 34}},
		{4611686018427387903, []byte{254, 255, 255, 255, 255, 255, 255, 255, 127}},
		{4611686018427387904, []byte{128, 128, 128, 128, 128, 128, 128, 128, 128, 1}},
		{-4611686018427387904, []byte{255, 255, 255, 255, 255, 255, 255, 255, 127}},
		{-4611686018427387905, []byte{129, 128, 128, 128, 128, 128, 128, 128, 128, 1}},
		{9223372036854775806, []byte{252, 255, 255, 255, 255, 255, 255, 255, 255, 1}},
		{9223372036854775807, []byte{254, 255, 255, 255, 255, 255, 255, 255, 255, 1}},
		{-9223372036854775807, []byte{253, 255, 255, 255, 255, 255, 255, 255, 255, 1}},
		{-9223372036854775808, []byte{255, 255, 255, 255, 255, 255, 255, 255, 255, 1}},
	} {
		if got := codec.PutInt(nil, x.n); !bytes.Equal(got, x.want) {
			t.Errorf("PutInt(nil, %d) = %v, not %v", x.n, got, x.want)
		}
		if n, next, code := codec.Int(x.want, 0); n != x.n || next != len(x.want) || code != api.OK {
			t.Errorf("Int(%v, 0) = %d, %d, %d", x.want, n, next, code)
		}
	}
}

func TestNumbersHaveNoMoreBytesThanNeeded(t *testing.T) {
	for i, n := range changes() {
		size := i/4 + 1
		if i%2 == 1 { // a number behind the change
			size++
		}
		if got := codec.PutInt(nil, n); len(got) != size {
			t.Errorf("PutInt(nil, %d) has %d bytes, not %d", n, len(got), size)
		}
	}
	for n := -70000; n <= 70000; n++ {
		if got := codec.PutInt(nil, n); !bytes.Equal(got, numberOf(n)) {
			t.Fatalf("PutInt(nil, %d) = %v", n, got)
		}
	}
}

func TestKnownStringsDigestsAndLists(t *testing.T) {
	for i, x := range []struct{ got, want []byte }{
		{codec.PutBytes(nil, nil), []byte{0}},
		{codec.PutBytes(nil, []byte{}), []byte{0}},
		{codec.PutBytes([]byte{7}, []byte("abc")), []byte{7, 6, 'a', 'b', 'c'}},
		{codec.PutBytes(nil, []byte{128, 0}), []byte{4, 128, 0}},
		{codec.PutDigest(nil, 0), []byte{0, 0, 0, 0, 0, 0, 0, 0}},
		{codec.PutDigest([]byte{7}, 0x0102030405060708), []byte{7, 1, 2, 3, 4, 5, 6, 7, 8}},
		{codec.PutDigest(nil, 1), []byte{0, 0, 0, 0, 0, 0, 0, 1}},
		{codec.PutDigest(nil, 0xfedcba9876543210), []byte{0xfe, 0xdc, 0xba, 0x98, 0x76, 0x54, 0x32, 0x10}},
		{codec.PutList(nil, nil), []byte{0}},
		{codec.PutList(nil, []string{}), []byte{0}},
		{codec.PutList(nil, []string{""}), []byte{2, 0}},
		{codec.PutList([]byte{7}, []string{"", "xy", ""}), []byte{7, 6, 0, 4, 'x', 'y', 0}},
	} {
		if !bytes.Equal(x.got, x.want) {
			t.Errorf("%d: %v, not %v", i, x.got, x.want)
		}
	}
	if got := codec.PutBytes(nil, make([]byte, 64)); !bytes.Equal(got, append([]byte{128, 1}, make([]byte, 64)...)) {
		t.Errorf("64 bytes: %v", got)
	}
	if got := codec.PutList(nil, make([]string, 64)); !bytes.Equal(got, append([]byte{128, 1}, make([]byte, 64)...)) {
		t.Errorf("64 empty strings: %v", got)
	}
}

func TestPutAppends(t *testing.T) {
	for _, p := range puts() {
		for _, before := range befores() {
			if got, want := p.put(before), slices.Concat(before, p.want); !bytes.Equal(got, want) {
				t.Errorf("%s behind %v: %v, not %v", p.name, before, got, want)
			}
		}
	}
}

func TestKnownFrames(t *testing.T) {
	for _, x := range []struct {
		data   string
		head   []byte
		digest api.Digest
	}{
		{"", []byte{0}, 0},
		{"\x00", []byte{2}, 0xfa99d0b4c78be55b},
		{"a", []byte{2}, 0x541262d532185396},
		{"data", []byte{8}, 0x333387e79e2c26a6},
		{"12345678", []byte{16}, 0x53b6e10686160be4},
		{"123456789", []byte{18}, 0x0812747e265868bc},
		{strings.Repeat("\x00", 64), []byte{128, 1}, 0x2ee4879cc6ea014f},
		{all(), []byte{128, 4}, 0xa8c6c4e72a6bb628},
	} {
		want := slices.Concat(x.head, []byte(x.data), digestOf(x.digest))
		if got := codec.Frame([]byte(x.data)); !bytes.Equal(got, want) {
			t.Errorf("Frame(%q) = %v, not %v", x.data, got, want)
		}
		if data, next, code := codec.Unframe(want, 0); string(data) != x.data || next != len(want) || code != api.OK {
			t.Errorf("Unframe(%v, 0) = %q, %d, %d", want, data, next, code)
		}
	}
	if got := codec.Frame(nil); !bytes.Equal(got, make([]byte, 9)) {
		t.Errorf("Frame(nil) = %v", got)
	}
}

func TestFrames(t *testing.T) {
	for _, s := range strs() {
		got := codec.Frame([]byte(s))
		if !bytes.Equal(got, frameOf(s)) {
			t.Errorf("Frame(%q) = %v", s, got)
		}
		if want := codec.PutDigest(codec.PutBytes(nil, []byte(s)), digest.Of([]byte(s))); !bytes.Equal(got, want) {
			t.Errorf("Frame(%q) is not its bytes and their digest", s)
		}
	}
}

// P8.2 and P8.3

func TestReadAtEachPlace(t *testing.T) {
	for _, s := range samples() {
		for _, before := range befores() {
			for _, behind := range befores() {
				b := slices.Concat(before, s.written, behind)
				want := result{s.value, len(before) + len(s.written), api.OK}
				if got := s.kind.read(b, len(before)); got != want {
					t.Errorf("%s at %d of %v: %v, not %v", s.kind.name, len(before), b, got, want)
				}
			}
		}
	}
}

func TestPositions(t *testing.T) {
	for _, k := range kinds() {
		for _, b := range befores() {
			k.refused(t, b, -1, api.ErrRange)
			k.refused(t, b, len(b)+1, api.ErrRange)
			k.refused(t, b, len(b), api.ErrMissing)
			for _, at := range wild() {
				k.refused(t, b, at, api.ErrRange)
			}
			for at := range b {
				k.check(t, b, at)
			}
		}
	}
	for _, s := range samples() {
		end := len(s.written)
		s.kind.refused(t, s.written, -1, api.ErrRange)
		s.kind.refused(t, s.written, end+1, api.ErrRange)
		s.kind.refused(t, s.written, end, api.ErrMissing)
	}
}

// What lies behind the length of b is not read, so the slices here have it.
func TestCutAtEachPlace(t *testing.T) {
	for _, s := range samples() {
		for _, before := range befores() {
			at := len(before)
			b := slices.Concat(before, s.written)
			cuts := min(len(s.written), 600)
			for size := range cuts {
				s.kind.refused(t, b[:at+size], at, api.ErrMissing)
			}
			s.kind.refused(t, b[:len(b)-1], at, api.ErrMissing)
		}
	}
}

// numbersRefused checks that bytes are refused by all that begins with a number, wherever b ends.
func numbersRefused(t *testing.T, b []byte) {
	t.Helper()
	for _, name := range []string{"Int", "Bytes", "List", "Unframe"} {
		for _, before := range [][]byte{nil, {3}, []byte("before")} {
			for _, behind := range [][]byte{nil, {0}, {1}, {128}, make([]byte, 20), bytes.Repeat([]byte{255}, 20)} {
				kindNamed(name).refused(t, slices.Concat(before, b, behind), len(before), api.ErrForm)
			}
		}
	}
}

func TestMoreBytesThanNeeded(t *testing.T) {
	for _, n := range []int{0, 1, -1, 63, 64, -64, -65, 8191, 8192, 1 << 40, -1 << 40, 1<<62 - 1, -1 << 62} {
		b := numberOf(n)
		for len(b) < 10 {
			b[len(b)-1] |= 128
			b = append(b, 0)
			numbersRefused(t, b)
		}
	}
}

func TestTenthByte(t *testing.T) {
	firsts := [][]byte{bytes.Repeat([]byte{128}, 9), bytes.Repeat([]byte{255}, 9), {129, 130, 131, 132, 133, 134, 135, 136, 137}}
	for _, first := range firsts {
		for tenth := 2; tenth < 256; tenth++ {
			numbersRefused(t, append(slices.Clone(first), byte(tenth)))
		}
		numbersRefused(t, append(slices.Clone(first), 0))
		kindNamed("Int").refused(t, first, 0, api.ErrMissing)
		b := append(slices.Clone(first), 1)
		kindNamed("Int").check(t, b, 0)
		if n, next, code := codec.Int(b, 0); code != api.OK || next != 10 || !bytes.Equal(numberOf(n), b) {
			t.Errorf("Int(%v, 0) = %d, %d, %d", b, n, next, code)
		}
	}
}

func TestNegativeLengths(t *testing.T) {
	for _, n := range numbers() {
		if n >= 0 {
			continue
		}
		for _, name := range []string{"Bytes", "List", "Unframe"} {
			for _, behind := range [][]byte{nil, {0}, []byte("12345678"), make([]byte, 100)} {
				kindNamed(name).refused(t, append(numberOf(n), behind...), 0, api.ErrForm)
				kindNamed(name).refused(t, slices.Concat([]byte{2}, numberOf(n), behind), 1, api.ErrForm)
			}
		}
	}
}

// A length may be so great that with a position it has no sum.
func TestLengthsGreaterThanWhatIsLeft(t *testing.T) {
	for left := range 20 {
		for _, n := range []int{left + 1, left + 2, 64, 1000, 1 << 20, 1 << 31, 1 << 32, 1 << 62, math.MaxInt64 - 20, math.MaxInt64 - 1, math.MaxInt64} {
			for _, before := range [][]byte{nil, {2}, make([]byte, 15)} {
				b := slices.Concat(before, numberOf(n), make([]byte, left))
				for _, name := range []string{"Bytes", "List", "Unframe"} {
					kindNamed(name).refused(t, b, len(before), api.ErrMissing)
				}
				inner := slices.Concat(before, []byte{2}, numberOf(n), make([]byte, left))
				kindNamed("List").refused(t, inner, len(before), api.ErrMissing)
			}
		}
	}
}

// Each list here has several errors, of which the first one decides.
func TestFirstErrorOfAListDecides(t *testing.T) {
	for _, x := range []struct {
		b    []byte
		want api.Errno
	}{
		{[]byte{4, 9}, api.ErrForm},                                // a negative length; the second string is not there
		{[]byte{10, 0, 1}, api.ErrForm},                            // the second one is negative, others are not there
		{[]byte{6, 2, 'a', 128, 0}, api.ErrForm},                   // the second length has a byte too many, the third is not there
		{[]byte{4, 6, 1}, api.ErrMissing},                          // the first is too long; what would be the second is in it
		{[]byte{4, 2}, api.ErrMissing},                             // the first is too long
		{[]byte{4, 0, 128}, api.ErrMissing},                        // the second length is cut
		{[]byte{4, 128}, api.ErrMissing},                           // the first length is cut
		{[]byte{2, 2, 'a', 1, 1, 1}, api.OK},                       // what is behind the list does not count
		{append(numberOf(math.MaxInt64), 0, 0, 1), api.ErrForm},    // the third one is negative
		{append(numberOf(math.MaxInt64), 0, 0, 6), api.ErrMissing}, // the third one is too long
	} {
		kindNamed("List").check(t, x.b, 0)
		if _, _, code := codec.List(x.b, 0); code != x.want {
			t.Errorf("List(%v, 0): %d, not %d", x.b, code, x.want)
		}
		if b := append([]byte{77}, x.b...); x.want != api.OK {
			kindNamed("List").refused(t, b, 1, x.want)
		}
	}
}

func TestChangedFrames(t *testing.T) {
	k := kindNamed("Unframe")
	for _, s := range strs()[:12] {
		head := len(numberOf(len(s)))
		for _, before := range [][]byte{nil, {5}, []byte("before")} {
			b := slices.Concat(before, frameOf(s), []byte("behind"))
			for i := len(before) + head; i < len(b)-len("behind"); i++ {
				for bit := range 8 {
					b[i] ^= 1 << bit
					k.refused(t, b, len(before), api.ErrDigest)
					b[i] ^= 1 << bit
				}
			}
			for i := len(before); i < len(before)+head; i++ {
				for change := 1; change < 256; change++ {
					b[i] ^= byte(change)
					k.check(t, b, len(before))
					b[i] ^= byte(change)
				}
			}
		}
	}
}

// A digest that does not fit comes last, so it does not count where its frame is cut.
func TestErrDigestComesLast(t *testing.T) {
	k := kindNamed("Unframe")
	b := frameOf("data")
	b[1] = 'D'
	for size := range b {
		k.refused(t, b[:size], 0, api.ErrMissing)
	}
	k.refused(t, b, 0, api.ErrDigest)
	k.refused(t, b, len(b)+1, api.ErrRange)
	k.refused(t, []byte{1, 9, 9, 9, 9, 9, 9, 9, 9}, 0, api.ErrForm)
	k.refused(t, []byte{128, 0, 9, 9, 9, 9, 9, 9, 9, 9}, 0, api.ErrForm)
	k.refused(t, []byte{0, 9, 9, 9, 9, 9, 9, 9, 9}, 0, api.ErrDigest)
	k.refused(t, []byte{0, 0, 0, 0, 0, 0, 0, 0, 1}, 0, api.ErrDigest)
	k.refused(t, []byte{0, 1, 0, 0, 0, 0, 0, 0, 0}, 0, api.ErrDigest)
}

// Consequences.

func TestWhatWasWrittenIsRead(t *testing.T) {
	data, list := []byte(all()), strs()
	b := codec.PutInt(nil, -77)
	b = codec.PutBytes(b, data)
	b = codec.PutDigest(b, 0xfedcba9876543210)
	b = codec.PutList(b, list)
	b = append(b, codec.Frame(data)...)
	b = codec.PutInt(b, math.MaxInt64)
	n, at, code := codec.Int(b, 0)
	if n != -77 || at != 2 || code != api.OK {
		t.Fatal("the first number:", n, at, code)
	}
	got, at, code := codec.Bytes(b, at)
	if !bytes.Equal(got, data) || at != 260 || code != api.OK {
		t.Fatal("the bytes:", got, at, code)
	}
	d, at, code := codec.Digest(b, at)
	if d != 0xfedcba9876543210 || at != 268 || code != api.OK {
		t.Fatal("the digest:", d, at, code)
	}
	l, at, code := codec.List(b, at)
	if !slices.Equal(l, list) || at != 268+len(listOf(list)) || code != api.OK {
		t.Fatal("the list:", l, at, code)
	}
	got, at, code = codec.Unframe(b, at)
	if !bytes.Equal(got, data) || at != len(b)-10 || code != api.OK {
		t.Fatal("the frame:", got, at, code)
	}
	n, at, code = codec.Int(b, at)
	if n != math.MaxInt64 || at != len(b) || code != api.OK {
		t.Fatal("the last number:", n, at, code)
	}
}

// readAlike compares all kinds with what the chapter says of these bytes, and what is read with what writing it gives.
func readAlike(t *testing.T, l []kind, b []byte, at int) {
	t.Helper()
	for _, k := range l {
		got := k.read(b, at)
		if want := k.want(b, at); got != want {
			t.Fatalf("%s(%v, %d) = %v, not %v", k.name, b, at, got, want)
		}
		if got.code != api.OK {
			continue
		}
		if again := k.again(b, at); !bytes.Equal(again, b[at:got.next]) {
			t.Fatalf("%s(%v, %d) = %v is written %v", k.name, b, at, got, again)
		}
	}
}

func TestBytesThatAreReadAreThoseThatAreWritten(t *testing.T) {
	l := kinds()
	for first := range 256 {
		for second := range 256 {
			readAlike(t, l, []byte{byte(first), byte(second)}, 0)
		}
	}
	some := []byte{0, 1, 2, 3, 4, 6, 126, 127, 128, 129, 255}
	for i := range len(some) * len(some) * len(some) * len(some) {
		b := []byte{77, some[i%11], some[i/11%11], some[i/121%11], some[i/1331]}
		readAlike(t, l, b, 1)
	}
}

// The bytes are chosen so that many of them are lists and frames, and many nearly so.
func TestManyBytes(t *testing.T) {
	l := kinds()
	source := rand.New(rand.NewSource(8))
	few := []byte{0, 0, 0, 1, 2, 2, 4, 4, 6, 8, 128, 129, 255}
	for range 20000 {
		b := make([]byte, source.Intn(30))
		for i := range b {
			b[i] = few[source.Intn(len(few))]
		}
		if source.Intn(2) == 0 {
			b = append(b[:len(b)/3], codec.Frame(b)...)
		}
		for at := -1; at <= len(b)+1; at++ {
			readAlike(t, l, b, at)
		}
	}
}

// P1

// The lists name far more strings than are there; reading them ends soon.
func TestReadingEnds(t *testing.T) {
	b := numberOf(math.MaxInt64)
	b = append(b, make([]byte, 1<<16)...)
	kindNamed("List").refused(t, b, 0, api.ErrMissing)
	whole := append(numberOf(1<<16), make([]byte, 1<<16)...)
	if l, next, code := codec.List(whole, 0); len(l) != 1<<16 || next != len(whole) || code != api.OK {
		t.Error("many empty strings:", len(l), next, code)
	}
	for _, at := range wild() {
		for _, k := range kinds() {
			k.refused(t, b, at, api.ErrRange)
		}
	}
}

// Rule 1 of DOC.md.

func TestPutChangesNothing(t *testing.T) {
	for _, p := range puts() {
		for _, before := range befores() {
			b, whole := inside(before)
			was := bytes.Clone(whole)
			got := p.put(b)
			if !bytes.Equal(whole, was) {
				t.Fatalf("%s behind %v has changed what is there", p.name, before)
			}
			overwrite(got)
			if !bytes.Equal(whole, was) {
				t.Fatalf("%s behind %v shares memory with what is there", p.name, before)
			}
			got = p.put(b)
			overwrite(whole)
			if want := slices.Concat(before, p.want); !bytes.Equal(got, want) {
				t.Fatalf("%s behind %v changes with what was there", p.name, before)
			}
		}
	}
}

// Both appended to the same bytes, which have room.
func TestTwoPutsBehindTheSame(t *testing.T) {
	b := make([]byte, 1, 4096)
	l := puts()
	for i, p := range l {
		q := l[len(l)-1-i]
		first, second := p.put(b), q.put(b)
		if !bytes.Equal(first, append([]byte{0}, p.want...)) || !bytes.Equal(second, append([]byte{0}, q.want...)) {
			t.Errorf("%s and %s behind the same bytes", p.name, q.name)
		}
	}
}

func TestDataAreNotChangedOrShared(t *testing.T) {
	for _, s := range strs() {
		for name, write := range map[string]func([]byte) []byte{
			"PutBytes": func(data []byte) []byte { return codec.PutBytes(nil, data) },
			"Frame":    codec.Frame,
		} {
			data, whole := inside([]byte(s))
			was := bytes.Clone(whole)
			got := write(data)
			want := bytes.Clone(got)
			overwrite(got)
			if !bytes.Equal(whole, was) {
				t.Errorf("%s of %q changes its data", name, s)
			}
			got = write(data)
			overwrite(whole)
			if !bytes.Equal(got, want) {
				t.Errorf("%s of %q changes with its data", name, s)
			}
		}
	}
}

// The data are a part of what is there already, or behind its length.
func TestPutBytesOfItself(t *testing.T) {
	whole := []byte("0123456789")
	if got := codec.PutBytes(whole[:4], whole[2:8]); string(got) != "0123\x0c234567" {
		t.Errorf("data that lie beside: %q", got)
	}
	if got := codec.PutBytes(whole, whole); string(got) != "0123456789\x140123456789" {
		t.Errorf("data that are there: %q", got)
	}
	if string(whole) != "0123456789" {
		t.Errorf("changed: %q", whole)
	}
}

func TestPutListLeavesTheList(t *testing.T) {
	whole := []string{"a", "", "bc", "behind"}
	was := slices.Clone(whole)
	codec.PutList([]byte{1}, whole[:3])
	if !slices.Equal(whole, was) {
		t.Errorf("PutList changes its list to %q", whole)
	}
}

func TestReadingChangesNothing(t *testing.T) {
	for _, s := range samples() {
		for _, k := range kinds() {
			b, whole := inside(s.written)
			was := bytes.Clone(whole)
			for at := -1; at <= min(len(b), 10)+1; at++ {
				k.read(b, at)
			}
			if !bytes.Equal(whole, was) {
				t.Fatalf("%s changes %v", k.name, s.written)
			}
		}
	}
}

func TestWhatIsReadSharesNoMemory(t *testing.T) {
	for _, s := range strs() {
		for name, x := range map[string]struct {
			read    func([]byte, int) ([]byte, int, api.Errno)
			written []byte
		}{"Bytes": {codec.Bytes, stringOf(s)}, "Unframe": {codec.Unframe, frameOf(s)}} {
			b, whole := inside(x.written)
			was := bytes.Clone(whole)
			data, _, _ := x.read(b, 0)
			overwrite(data)
			if !bytes.Equal(whole, was) {
				t.Errorf("what %s gives of %q shares memory", name, s)
			}
			data, _, _ = x.read(b, 0)
			overwrite(whole)
			if string(data) != s {
				t.Errorf("what %s gives of %q changes with b", name, s)
			}
		}
	}
	for _, want := range lists() {
		b, whole := inside(listOf(want))
		got, _, _ := codec.List(b, 0)
		overwrite(whole)
		if !slices.Equal(got, want) {
			t.Errorf("what List gives of %q changes with b", want)
		}
	}
}
