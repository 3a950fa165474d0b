package message_test

import (
	"bytes"
	"encoding/binary"
	"fmt"
	"maps"
	"math"
	"math/rand"
	"slices"
	"strings"
	"testing"

	"asyncbft/api"
	"asyncbft/message"
)

// row is a kind of the chapter's table: the fields that it has, and the ends of Bit if it is one of them.
type row struct {
	kind            int
	name, fields    string
	least, greatest int
}

func table() []row {
	return []row{
		{1, "init", "Data", 0, 0},
		{2, "echo", "Data", 0, 0},
		{3, "ready", "Data", 0, 0},
		{4, "shard", "Root Length Data Path", 0, 0},
		{5, "part", "Root Length Data Path", 0, 0},
		{6, "done", "Root Length", 0, 0},
		{7, "value", "Round Bit", 0, 1},
		{8, "aux", "Round Bit", 0, 1},
		{9, "conf", "Round Bit", 1, 3},
		{10, "coin", "Round Data", 0, 0},
		{11, "term", "Bit", 0, 1},
		{12, "key", "Data", 0, 0},
	}
}

func (r row) has(field string) bool { return slices.Contains(strings.Fields(r.fields), field) }

// plain is the valid message of a kind that has the least value in each field.
func (r row) plain() api.Message { return api.Message{Kind: r.kind, Bit: r.least} }

// rowOf returns the row of a kind; it has no name where the kind is none.
func rowOf(kind int) row {
	for _, r := range table() {
		if r.kind == kind {
			return r
		}
	}
	return row{}
}

// valueOf returns a field as a number, where it has one (lists: how long they are).
func valueOf(m api.Message, field string) int {
	return map[string]int{
		"Epoch": m.Epoch, "Instance": m.Instance, "Round": m.Round, "Bit": m.Bit,
		"Root": int(m.Root), "Length": m.Length, "Data": len(m.Data), "Path": len(m.Path),
	}[field]
}

// validOf, bytesOf, decoded, keyOf and textOf are the definitions of the chapter, apart from the package.
func validOf(m api.Message) api.Errno {
	r := rowOf(m.Kind)
	if r.name == "" {
		return api.ErrForm
	}
	greatest := map[string]int{"Epoch": 1 << 20, "Instance": 15}
	for field, end := range map[string]int{"Round": 63, "Bit": r.greatest, "Length": 4096} {
		if r.has(field) {
			greatest[field] = end
		}
	}
	for field, end := range greatest {
		n := valueOf(m, field)
		if n < 0 || n > end || field == "Bit" && n < r.least {
			return api.ErrRange
		}
	}
	if len(m.Data) > 4096 || len(m.Path) > 10 {
		return api.ErrLimit
	}
	for _, field := range []string{"Round", "Bit", "Root", "Length", "Data", "Path"} {
		if !r.has(field) && valueOf(m, field) != 0 {
			return api.ErrInvalid
		}
	}
	return api.OK
}

// pieces are the parts of the bytes of a message: six numbers, the root, the length of the data, the data, the length of the path, the path.
func pieces(m api.Message) [][]byte {
	var l [][]byte
	for _, n := range []int{m.Kind, m.Epoch, m.Instance, m.Round, m.Bit, m.Length} {
		l = append(l, numberOf(n))
	}
	path := []byte{}
	for _, d := range m.Path {
		path = binary.BigEndian.AppendUint64(path, uint64(d))
	}
	root := binary.BigEndian.AppendUint64(nil, uint64(m.Root))
	return append(l, root, numberOf(len(m.Data)), m.Data, numberOf(len(m.Path)), path)
}

const (
	dataLength = 7
	pathLength = 9
)

// The library's signed varints are the numbers of chapter 8.
func numberOf(n int) []byte { return binary.AppendVarint(nil, int64(n)) }

func bytesOf(m api.Message) []byte { return slices.Concat(pieces(m)...) }

// decoded reads a message without asking whether it is valid, and then compares its bytes with b.
func decoded(b []byte) (api.Message, api.Errno) {
	m, ok := parsed(b)
	if !ok || validOf(m) != api.OK || !bytes.Equal(bytesOf(m), b) {
		return api.Message{}, api.ErrForm
	}
	return m, api.OK
}

func parsed(b []byte) (m api.Message, ok bool) {
	number := func() int {
		n, size := binary.Varint(b)
		if size <= 0 {
			panic("no number")
		}
		b = b[size:]
		return int(n)
	}
	digest := func() api.Digest {
		d := binary.BigEndian.Uint64(b)
		b = b[8:]
		return api.Digest(d)
	}
	defer func() { ok = recover() == nil }()
	m.Kind, m.Epoch, m.Instance = number(), number(), number()
	m.Round, m.Bit, m.Length = number(), number(), number()
	m.Root = digest()
	size := number()
	m.Data, b = b[:size:size], b[size:]
	for range min(number(), 11) {
		m.Path = append(m.Path, digest())
	}
	return m, true
}

// keyOf is different for different messages, and the same for nil and empty lists.
func keyOf(m api.Message) string {
	numbers := fmt.Sprint(m.Kind, m.Epoch, m.Instance, m.Round, m.Bit, m.Root, m.Length, len(m.Data))
	return numbers + " " + string(m.Data) + fmt.Sprint(m.Path)
}

func textOf(m api.Message) string {
	r := rowOf(m.Kind)
	if r.name == "" {
		return ""
	}
	s := fmt.Sprintf("%s(%d,%d", r.name, m.Epoch, m.Instance)
	for _, field := range []string{"Round", "Bit"} {
		if r.has(field) {
			s += fmt.Sprintf(",%d", valueOf(m, field))
		}
	}
	return s + ")"
}

// setting is a value that a field is set to.
type setting struct {
	field string
	name  string
	set   func(m *api.Message)
}

func wild() []int {
	return []int{math.MinInt64, math.MinInt64 + 1, -1 << 62, -1 << 32, -1 << 31, -65, -64, 1 << 31, 1 << 32, 1 << 62, math.MaxInt64 - 1, math.MaxInt64}
}

func datas() [][]byte {
	return [][]byte{nil, {}, {0}, {0, 0}, {0, 1}, {255}, []byte("data"), make([]byte, 63), make([]byte, 64), make([]byte, 4095), make([]byte, 4096), make([]byte, 4097), make([]byte, 10000)}
}

func paths() [][]api.Digest {
	return [][]api.Digest{nil, {}, {0}, {0, 0}, {0, 1}, {math.MaxUint64}, {1, 2, 3, 4, 5, 6, 7, 8, 9, 10}, make([]api.Digest, 9), make([]api.Digest, 10), make([]api.Digest, 11), make([]api.Digest, 64), make([]api.Digest, 1000)}
}

// settings are values for all fields but Kind, at the ends of their ranges and beyond.
func settings() []setting {
	var l []setting
	ints := func(field string, at func(m *api.Message) *int, values ...int) {
		for _, n := range append(values, wild()...) {
			l = append(l, setting{field, fmt.Sprint(field, " ", n), func(m *api.Message) { *at(m) = n }})
		}
	}
	ints("Epoch", func(m *api.Message) *int { return &m.Epoch }, -1, 0, 1, 63, 64, 1<<20-1, 1<<20, 1<<20+1)
	ints("Instance", func(m *api.Message) *int { return &m.Instance }, -1, 0, 1, 14, 15, 16, 17)
	ints("Round", func(m *api.Message) *int { return &m.Round }, -1, 0, 1, 62, 63, 64, 65)
	ints("Bit", func(m *api.Message) *int { return &m.Bit }, -2, -1, 0, 1, 2, 3, 4, 5)
	ints("Length", func(m *api.Message) *int { return &m.Length }, -1, 0, 1, 63, 64, 4095, 4096, 4097)
	for _, d := range []api.Digest{0, 1, 1 << 32, 1 << 63, math.MaxUint64} {
		l = append(l, setting{"Root", fmt.Sprint("Root ", d), func(m *api.Message) { m.Root = d }})
	}
	for _, data := range datas() {
		l = append(l, setting{"Data", fmt.Sprint("Data of ", len(data)), func(m *api.Message) { m.Data = data }})
	}
	for _, path := range paths() {
		l = append(l, setting{"Path", fmt.Sprint("Path of ", len(path)), func(m *api.Message) { m.Path = path }})
	}
	return l
}

// noKinds are numbers that are no kinds.
func noKinds() []int { return append(wild(), -12, -2, -1, 0, 13, 14, 15, 16, 24, 25, 100, 257) }

// full is the message of a kind that has the greatest value in each of its fields.
func (r row) full() api.Message {
	m := api.Message{Kind: r.kind, Epoch: api.MaxEpoch, Instance: 15, Bit: r.greatest}
	if r.has("Round") {
		m.Round = 63
	}
	if r.has("Root") {
		m.Root = math.MaxUint64
	}
	if r.has("Length") {
		m.Length = 4096
	}
	if r.has("Data") {
		m.Data = bytes.Repeat([]byte{255}, 4096)
	}
	if r.has("Path") {
		m.Path = slices.Repeat([]api.Digest{math.MaxUint64}, 10)
	}
	return m
}

// each calls visit with the messages that come of the plain and the full one of each kind, and of kinds that are none, by up to two settings.
func each(visit func(name string, m api.Message)) {
	l := settings()
	for _, r := range table() {
		for _, first := range []api.Message{r.plain(), r.full()} {
			visit(r.name, first)
			for i, s := range l {
				m := first
				s.set(&m)
				visit(r.name+" "+s.name, m)
				for _, o := range l[i+1:] {
					if o.field != s.field {
						both := m
						o.set(&both)
						visit(r.name+" "+s.name+" "+o.name, both)
					}
				}
			}
		}
	}
	for _, kind := range noKinds() {
		visit("none", api.Message{Kind: kind})
		for _, s := range l {
			m := api.Message{Kind: kind}
			s.set(&m)
			visit("none "+s.name, m)
		}
	}
}

// samples are valid messages: all that are plain or full, or come of them by a setting.
func samples() []api.Message {
	var l []api.Message
	for _, r := range table() {
		for _, first := range []api.Message{r.plain(), r.full()} {
			l = append(l, first)
			for _, s := range settings() {
				m := first
				s.set(&m)
				if validOf(m) == api.OK {
					l = append(l, m)
				}
			}
		}
	}
	return l
}

// known are messages with their bytes, which were computed by a program apart from this one.
type known struct {
	m api.Message
	b []byte
}

func knowns() []known {
	return []known{
		{api.Message{Kind: api.KindInit, Data: []byte{118}}, []byte{2, 0, 0, 0, 0, 0, 0, 0, 0, 0, 0, 0, 0, 0, 2, 118, 0}},
		{api.Message{Kind: api.KindInit}, []byte{2, 0, 0, 0, 0, 0, 0, 0, 0, 0, 0, 0, 0, 0, 0, 0}},
		{api.Message{Kind: api.KindEcho, Epoch: 3, Data: []byte{97, 98}}, []byte{4, 6, 0, 0, 0, 0, 0, 0, 0, 0, 0, 0, 0, 0, 4, 97, 98, 0}},
		{api.Message{Kind: api.KindEcho, Epoch: 63, Instance: 15, Data: []byte{0, 255}}, []byte{4, 126, 30, 0, 0, 0, 0, 0, 0, 0, 0, 0, 0, 0, 4, 0, 255, 0}},
		{api.Message{Kind: api.KindReady, Epoch: 64, Instance: 1}, []byte{6, 128, 1, 2, 0, 0, 0, 0, 0, 0, 0, 0, 0, 0, 0, 0, 0}},
		{api.Message{Kind: api.KindReady, Epoch: 1048576, Instance: 15, Data: []byte{128}}, []byte{6, 128, 128, 128, 1, 30, 0, 0, 0, 0, 0, 0, 0, 0, 0, 0, 0, 2, 128, 0}},
		{api.Message{Kind: api.KindShard, Epoch: 8191, Instance: 2, Root: 0x102030405060708, Length: 64, Data: []byte{120, 121, 122}, Path: []api.Digest{0x5, 0xfedcba9876543210}}, []byte{8, 254, 127, 4, 0, 0, 128, 1, 1, 2, 3, 4, 5, 6, 7, 8, 6, 120, 121, 122, 4, 0, 0, 0, 0, 0, 0, 0, 5, 254, 220, 186, 152, 118, 84, 50, 16}},
		{api.Message{Kind: api.KindShard, Epoch: 8192, Root: 0xffffffffffffffff, Length: 4096}, []byte{8, 128, 128, 1, 0, 0, 0, 128, 64, 255, 255, 255, 255, 255, 255, 255, 255, 0, 0}},
		{api.Message{Kind: api.KindPart, Epoch: 5, Instance: 3, Root: 0x8000000000000000, Length: 63, Path: []api.Digest{0xffffffffffffffff}}, []byte{10, 10, 6, 0, 0, 126, 128, 0, 0, 0, 0, 0, 0, 0, 0, 2, 255, 255, 255, 255, 255, 255, 255, 255}},
		{api.Message{Kind: api.KindPart, Path: []api.Digest{0}}, []byte{10, 0, 0, 0, 0, 0, 0, 0, 0, 0, 0, 0, 0, 0, 0, 2, 0, 0, 0, 0, 0, 0, 0, 0}},
		{api.Message{Kind: api.KindDone, Epoch: 200, Instance: 14, Root: 0xff, Length: 100}, []byte{12, 144, 3, 28, 0, 0, 200, 1, 0, 0, 0, 0, 0, 0, 0, 255, 0, 0}},
		{api.Message{Kind: api.KindDone}, []byte{12, 0, 0, 0, 0, 0, 0, 0, 0, 0, 0, 0, 0, 0, 0, 0}},
		{api.Message{Kind: api.KindValue, Epoch: 7, Instance: 5, Round: 63, Bit: 1}, []byte{14, 14, 10, 126, 2, 0, 0, 0, 0, 0, 0, 0, 0, 0, 0, 0}},
		{api.Message{Kind: api.KindValue, Round: 1}, []byte{14, 0, 0, 2, 0, 0, 0, 0, 0, 0, 0, 0, 0, 0, 0, 0}},
		{api.Message{Kind: api.KindAux, Epoch: 2, Instance: 1, Bit: 1}, []byte{16, 4, 2, 0, 2, 0, 0, 0, 0, 0, 0, 0, 0, 0, 0, 0}},
		{api.Message{Kind: api.KindConf, Epoch: 1, Instance: 9, Round: 32, Bit: 3}, []byte{18, 2, 18, 64, 6, 0, 0, 0, 0, 0, 0, 0, 0, 0, 0, 0}},
		{api.Message{Kind: api.KindConf, Round: 2, Bit: 1}, []byte{18, 0, 0, 4, 2, 0, 0, 0, 0, 0, 0, 0, 0, 0, 0, 0}},
		{api.Message{Kind: api.KindCoin, Epoch: 300, Instance: 8, Round: 4, Data: []byte{200}}, []byte{20, 216, 4, 16, 8, 0, 0, 0, 0, 0, 0, 0, 0, 0, 0, 2, 200, 0}},
		{api.Message{Kind: api.KindTerm, Epoch: 127, Instance: 7, Bit: 1}, []byte{22, 254, 1, 14, 0, 2, 0, 0, 0, 0, 0, 0, 0, 0, 0, 0, 0}},
		{api.Message{Kind: api.KindTerm}, []byte{22, 0, 0, 0, 0, 0, 0, 0, 0, 0, 0, 0, 0, 0, 0, 0}},
		{api.Message{Kind: api.KindKey, Epoch: 100000, Instance: 6, Data: []byte{107, 101, 121}}, []byte{24, 192, 154, 12, 12, 0, 0, 0, 0, 0, 0, 0, 0, 0, 0, 0, 6, 107, 101, 121, 0}},
	}
}

// short leaves out most of many bytes.
func short(b []byte) string {
	if len(b) > 60 {
		return fmt.Sprintf("%v and %d more bytes", b[:60], len(b)-60)
	}
	return fmt.Sprint(b)
}

// refused checks that these are the bytes of no valid message.
func refused(t *testing.T, b []byte) {
	t.Helper()
	m, code := message.Decode(b)
	if code != api.ErrForm {
		t.Errorf("Decode(%s): %d", short(b), code)
	}
	if keyOf(m) != keyOf(api.Message{}) {
		t.Errorf("Decode(%s) = %s beside an error", short(b), textOf(m))
	}
}

// check compares what Decode returns with the definition.
func check(t *testing.T, b []byte) {
	t.Helper()
	m, code := message.Decode(b)
	want, wantCode := decoded(b)
	if code != wantCode || keyOf(m) != keyOf(want) {
		t.Errorf("Decode(%s) = %s, %d, not %s, %d", short(b), textOf(m), code, textOf(want), wantCode)
	}
}

// valid checks Valid, and that Encode has the same error and nothing beside it.
func valid(t *testing.T, name string, m api.Message, want api.Errno) {
	t.Helper()
	if code := message.Valid(m); code != want {
		t.Errorf("Valid of %s: %d, not %d", name, code, want)
	}
	b, code := message.Encode(m)
	if code != want {
		t.Errorf("Encode of %s: %d, not %d", name, code, want)
	}
	if code != api.OK && len(b) > 0 {
		t.Errorf("Encode of %s = %s beside an error", name, short(b))
	}
}

// P9.1

func TestKindsAndNumbers(t *testing.T) {
	for _, r := range table() {
		valid(t, "plain "+r.name, r.plain(), api.OK)
		valid(t, "full "+r.name, r.full(), api.OK)
	}
	for _, kind := range noKinds() {
		valid(t, fmt.Sprint("kind ", kind), api.Message{Kind: kind}, api.ErrForm)
		valid(t, fmt.Sprint("kind ", kind), api.Message{Kind: kind, Bit: 1}, api.ErrForm)
	}
	valid(t, "the zero message", api.Message{}, api.ErrForm)
}

func TestEpochAndInstance(t *testing.T) {
	for _, r := range table() {
		for n, want := range map[int]api.Errno{-1: api.ErrRange, 0: api.OK, 1: api.OK, 1 << 20: api.OK, 1<<20 + 1: api.ErrRange} {
			m := r.plain()
			m.Epoch = n
			valid(t, fmt.Sprint(r.name, " of epoch ", n), m, want)
		}
		for n, want := range map[int]api.Errno{-1: api.ErrRange, 0: api.OK, 1: api.OK, 15: api.OK, 16: api.ErrRange} {
			m := r.plain()
			m.Instance = n
			valid(t, fmt.Sprint(r.name, " of instance ", n), m, want)
		}
		for _, n := range wild() {
			epoch, instance := r.plain(), r.plain()
			epoch.Epoch, instance.Instance = n, n
			valid(t, fmt.Sprint(r.name, " of epoch ", n), epoch, api.ErrRange)
			valid(t, fmt.Sprint(r.name, " of instance ", n), instance, api.ErrRange)
		}
	}
}

func TestRounds(t *testing.T) {
	for _, r := range table() {
		rounds := map[int]api.Errno{-64: api.ErrInvalid, -1: api.ErrInvalid, 0: api.OK, 1: api.ErrInvalid, 63: api.ErrInvalid, 64: api.ErrInvalid}
		if slices.Contains([]string{"value", "aux", "conf", "coin"}, r.name) {
			rounds = map[int]api.Errno{-64: api.ErrRange, -1: api.ErrRange, 0: api.OK, 1: api.OK, 63: api.OK, 64: api.ErrRange}
		}
		for n, want := range rounds {
			m := r.plain()
			m.Round = n
			valid(t, fmt.Sprint(r.name, " of round ", n), m, want)
		}
		for _, n := range wild() {
			m := r.plain()
			m.Round = n
			valid(t, fmt.Sprint(r.name, " of round ", n), m, rounds[64])
		}
	}
}

func TestBits(t *testing.T) {
	none := []api.Errno{api.ErrInvalid, api.ErrInvalid, api.OK, api.ErrInvalid, api.ErrInvalid, api.ErrInvalid, api.ErrInvalid, api.ErrInvalid}
	one := []api.Errno{api.ErrRange, api.ErrRange, api.OK, api.OK, api.ErrRange, api.ErrRange, api.ErrRange, api.ErrRange}
	sets := []api.Errno{api.ErrRange, api.ErrRange, api.ErrRange, api.OK, api.OK, api.OK, api.ErrRange, api.ErrRange}
	others := map[string][]api.Errno{"value": one, "aux": one, "term": one, "conf": sets}
	for _, r := range table() {
		want, ok := others[r.name]
		if !ok {
			want = none
		}
		for i, code := range want {
			valid(t, fmt.Sprint(r.name, " of bit ", i-2), api.Message{Kind: r.kind, Bit: i - 2}, code)
		}
		for _, n := range wild() {
			valid(t, fmt.Sprint(r.name, " of bit ", n), api.Message{Kind: r.kind, Bit: n}, want[0])
		}
	}
}

func TestRootsAndLengths(t *testing.T) {
	for _, r := range table() {
		root := api.ErrInvalid
		lengths := map[int]api.Errno{-1: api.ErrInvalid, 0: api.OK, 1: api.ErrInvalid, 4096: api.ErrInvalid, 4097: api.ErrInvalid}
		if slices.Contains([]string{"shard", "part", "done"}, r.name) {
			root = api.OK
			lengths = map[int]api.Errno{-1: api.ErrRange, 0: api.OK, 1: api.OK, 4096: api.OK, 4097: api.ErrRange}
		}
		for _, d := range []api.Digest{1, 1 << 63, math.MaxUint64} {
			m := r.plain()
			m.Root = d
			valid(t, fmt.Sprint(r.name, " of root ", d), m, root)
		}
		for n, want := range lengths {
			m := r.plain()
			m.Length = n
			valid(t, fmt.Sprint(r.name, " of length ", n), m, want)
		}
		for _, n := range wild() {
			m := r.plain()
			m.Length = n
			valid(t, fmt.Sprint(r.name, " of length ", n), m, lengths[4097])
		}
	}
}

func TestDataAndPaths(t *testing.T) {
	for _, r := range table() {
		data := slices.Contains([]string{"init", "echo", "ready", "shard", "part", "coin", "key"}, r.name)
		path := slices.Contains([]string{"shard", "part"}, r.name)
		want := func(has bool, size, limit int) api.Errno {
			switch {
			case size > limit:
				return api.ErrLimit
			case size > 0 && !has:
				return api.ErrInvalid
			}
			return api.OK
		}
		for _, size := range []int{0, 1, 2, 4095, 4096, 4097, 1 << 16} {
			m := r.plain()
			m.Data = make([]byte, size)
			valid(t, fmt.Sprint(r.name, " with data of ", size), m, want(data, size, 4096))
		}
		for _, size := range []int{0, 1, 2, 9, 10, 11, 12, 1 << 10} {
			m := r.plain()
			m.Path = make([]api.Digest, size)
			valid(t, fmt.Sprint(r.name, " with a path of ", size), m, want(path, size, 10))
		}
	}
}

// Messages of each kind with two errors; the one that the chapter names first decides.
func TestFirstErrorDecides(t *testing.T) {
	ranges := map[string]func(m *api.Message){
		"epoch":    func(m *api.Message) { m.Epoch = -1 },
		"instance": func(m *api.Message) { m.Instance = 16 },
		"round":    func(m *api.Message) { m.Round = 64 },
		"bit":      func(m *api.Message) { m.Bit = 4 },
		"length":   func(m *api.Message) { m.Length = 4097 },
	}
	limits := map[string]func(m *api.Message){
		"data": func(m *api.Message) { m.Data = make([]byte, 4097) },
		"path": func(m *api.Message) { m.Path = make([]api.Digest, 11) },
	}
	others := map[string]func(m *api.Message){
		"Round":  func(m *api.Message) { m.Round = 1 },
		"Bit":    func(m *api.Message) { m.Bit = 1 },
		"Root":   func(m *api.Message) { m.Root = 1 },
		"Length": func(m *api.Message) { m.Length = 1 },
		"Data":   func(m *api.Message) { m.Data = []byte{0} },
		"Path":   func(m *api.Message) { m.Path = []api.Digest{0} },
	}
	fields := map[string]string{"round": "Round", "bit": "Bit", "length": "Length"}
	for _, r := range table() {
		for first, spoil := range ranges {
			if field, ok := fields[first]; ok && !r.has(field) {
				continue
			}
			for second, also := range limits {
				m := r.plain()
				spoil(&m)
				also(&m)
				valid(t, strings.Join([]string{r.name, first, second}, " "), m, api.ErrRange)
				m.Kind = 13
				valid(t, strings.Join([]string{"none", first, second}, " "), m, api.ErrForm)
			}
			for second, also := range others {
				m := r.plain()
				spoil(&m)
				if !r.has(second) {
					also(&m)
				}
				valid(t, strings.Join([]string{r.name, first, second}, " "), m, api.ErrRange)
			}
		}
		for first, spoil := range limits {
			for second, also := range others {
				m := r.plain()
				if !r.has(second) {
					also(&m)
				}
				spoil(&m)
				valid(t, strings.Join([]string{r.name, first, second}, " "), m, api.ErrLimit)
			}
		}
		for second, also := range others {
			m := api.Message{}
			also(&m)
			valid(t, "none "+second, m, api.ErrForm)
			m = r.plain()
			also(&m)
			want := api.ErrInvalid
			if r.has(second) {
				want = api.OK
			}
			valid(t, r.name+" "+second, m, want)
		}
	}
}

func TestValidOfAll(t *testing.T) {
	each(func(name string, m api.Message) {
		if code, want := message.Valid(m), validOf(m); code != want {
			t.Errorf("Valid of %s: %d, not %d", name, code, want)
		}
	})
}

// P9.2

func TestKnownBytes(t *testing.T) {
	for _, x := range knowns() {
		b, code := message.Encode(x.m)
		if code != api.OK || !bytes.Equal(b, x.b) {
			t.Errorf("Encode(%v) = %v, %d, not %v", x.m, b, code, x.b)
		}
		m, code := message.Decode(x.b)
		if code != api.OK || keyOf(m) != keyOf(x.m) {
			t.Errorf("Decode(%v) = %v, %d, not %v", x.b, m, code, x.m)
		}
	}
}

func TestEncodeOfAll(t *testing.T) {
	each(func(name string, m api.Message) {
		b, code := message.Encode(m)
		want := validOf(m)
		if code != want {
			t.Fatalf("Encode of %s: %d, not %d", name, code, want)
		}
		if code != api.OK && len(b) > 0 || code == api.OK && !bytes.Equal(b, bytesOf(m)) {
			t.Fatalf("Encode of %s = %s", name, short(b))
		}
	})
}

func TestDecodeOfAll(t *testing.T) {
	for _, m := range samples() {
		b := bytesOf(m)
		got, code := message.Decode(b)
		if code != api.OK || keyOf(got) != keyOf(m) {
			t.Errorf("Decode(%s) = %s, %d", short(b), textOf(got), code)
		}
	}
}

func TestBytesOfNoValidMessage(t *testing.T) {
	each(func(name string, m api.Message) {
		if validOf(m) == api.OK {
			return
		}
		got, code := message.Decode(bytesOf(m))
		if code != api.ErrForm || keyOf(got) != keyOf(api.Message{}) {
			t.Fatalf("Decode of the bytes of %s = %s, %d", name, textOf(got), code)
		}
	})
}

func TestNoBytes(t *testing.T) {
	refused(t, nil)
	refused(t, []byte{})
	refused(t, bytes.Repeat([]byte{0}, 16))
	refused(t, make([]byte, 1, 100))
}

// What lies behind the length of b is not read, so the slices here have it.
func TestCutAtEachPlace(t *testing.T) {
	for _, m := range samples() {
		b := bytesOf(m)
		for size := range b {
			if size < 100 || size%97 == 0 || size > len(b)-100 {
				if got, code := message.Decode(b[:size]); code != api.ErrForm || keyOf(got) != keyOf(api.Message{}) {
					t.Fatalf("Decode of %d bytes of %s = %s, %d", size, textOf(m), textOf(got), code)
				}
			}
		}
	}
}

func TestMoreBytesBehind(t *testing.T) {
	for _, x := range knowns() {
		for behind := range 256 {
			refused(t, append(slices.Clone(x.b), byte(behind)))
		}
		refused(t, append(slices.Clone(x.b), x.b...))
		refused(t, append(slices.Clone(x.b), make([]byte, 8)...))
		refused(t, append([]byte{0}, x.b...))
	}
	for _, m := range samples() {
		refused(t, append(bytesOf(m), 0))
	}
}

func TestOneByteChanged(t *testing.T) {
	for _, x := range knowns() {
		b := slices.Clone(x.b)
		for i := range b {
			for change := 1; change < 256; change++ {
				b[i] ^= byte(change)
				check(t, b)
				b[i] ^= byte(change)
			}
		}
	}
}

// Two bytes of the numbers are changed.
func TestTwoBytesChanged(t *testing.T) {
	few := []byte{0, 1, 2, 4, 16, 18, 126, 128, 129}
	for _, x := range knowns() {
		b := slices.Clone(x.b)
		for i := range b {
			for k := range i {
				was, other := b[i], b[k]
				for _, first := range few {
					for _, second := range few {
						b[i], b[k] = first, second
						check(t, b)
					}
				}
				b[i], b[k] = was, other
			}
		}
	}
}

// with returns the bytes of a message in which one piece is another one.
func with(m api.Message, at int, piece []byte) []byte {
	l := pieces(m)
	l[at] = piece
	return slices.Concat(l...)
}

// numberPieces are the places of the numbers among the pieces.
func numberPieces() []int { return []int{0, 1, 2, 3, 4, 5, dataLength, pathLength} }

func TestNumbersWithMoreBytesThanNeeded(t *testing.T) {
	for _, x := range knowns() {
		for _, at := range numberPieces() {
			number := slices.Clone(pieces(x.m)[at])
			for len(number) < 12 {
				number[len(number)-1] |= 128
				number = append(number, 0)
				refused(t, with(x.m, at, number))
			}
		}
	}
}

func TestNumbersOfMoreThan64Bits(t *testing.T) {
	for _, x := range knowns() {
		for _, at := range numberPieces() {
			for _, tenth := range []byte{1, 2, 3, 127, 128, 129, 255} {
				for _, first := range []byte{128, 255} {
					refused(t, with(x.m, at, append(bytes.Repeat([]byte{first}, 9), tenth)))
				}
			}
		}
	}
}

func TestNumbersOfNoValidMessage(t *testing.T) {
	for _, x := range knowns() {
		for _, at := range numberPieces() {
			for _, n := range append(wild(), -1, -2) {
				refused(t, with(x.m, at, numberOf(n)))
			}
		}
	}
}

func TestLengthsOfData(t *testing.T) {
	for _, r := range table() {
		for _, n := range []int{-1, -2, -3, -4, -64, -4096, math.MinInt64} {
			for _, left := range []int{0, 1, 2, 4, 64, 5000} {
				b := slices.Concat(with(r.plain(), dataLength, numberOf(n)), make([]byte, left))
				refused(t, b)
			}
		}
		for _, n := range []int{2, 3, 4, 100, 4096, 4097, 1 << 20, 1 << 31, 1 << 32, 1 << 62, math.MaxInt64 - 15, math.MaxInt64} {
			refused(t, with(r.plain(), dataLength, numberOf(n)))
			check(t, with(r.full(), dataLength, numberOf(n)))
		}
	}
	m := api.Message{Kind: api.KindInit, Data: []byte("data")}
	for n := range 10 {
		check(t, with(m, dataLength, numberOf(n)))
	}
	for _, size := range []int{4096, 4097, 4098, 1 << 13, 1 << 16} {
		for _, r := range table() {
			m := r.plain()
			m.Data = make([]byte, size)
			check(t, bytesOf(m))
		}
	}
}

func TestLengthsOfPaths(t *testing.T) {
	for _, r := range table() {
		for _, n := range []int{-1, -2, -3, -8, -10, -64, math.MinInt64} {
			for _, left := range []int{0, 1, 8, 16, 80} {
				refused(t, append(with(r.plain(), pathLength, numberOf(n)), make([]byte, left)...))
			}
		}
		for _, n := range []int{1, 2, 10, 11, 12, 100, 1 << 20, 1 << 31, 1 << 32, 1 << 60, 1 << 61, 1<<61 + 1, 1 << 62, math.MaxInt64 - 1, math.MaxInt64} {
			refused(t, with(r.plain(), pathLength, numberOf(n)))
			for _, left := range []int{1, 7, 79, 81} {
				refused(t, append(with(r.plain(), pathLength, numberOf(n)), make([]byte, left)...))
			}
		}
		for elements := range 20 {
			for n := range 20 {
				m := r.plain()
				m.Path = make([]api.Digest, elements)
				check(t, with(m, pathLength, numberOf(n)))
			}
		}
	}
}

// The bytes are chosen so that many of them are messages, and many nearly so.
func TestManyBytes(t *testing.T) {
	source := rand.New(rand.NewSource(9))
	small := func(n int) int { return source.Intn(n+2) - source.Intn(2) }
	found := map[api.Errno]int{}
	for range 100000 {
		m := rowOf(1 + source.Intn(12)).plain()
		r := rowOf(m.Kind)
		m.Epoch, m.Instance = small(3), small(15)
		if r.has("Round") || source.Intn(30) == 0 {
			m.Round = small(63)
		}
		if r.has("Bit") || source.Intn(30) == 0 {
			m.Bit = source.Intn(4)
		}
		if r.has("Root") || source.Intn(30) == 0 {
			m.Root, m.Length = api.Digest(source.Intn(3)), small(9)
		}
		if r.has("Data") || source.Intn(30) == 0 {
			m.Data = make([]byte, source.Intn(4))
		}
		if r.has("Path") || source.Intn(30) == 0 {
			m.Path = make([]api.Digest, source.Intn(12))
		}
		b := bytesOf(m)
		if source.Intn(3) == 0 {
			b[source.Intn(len(b))] = byte(source.Intn(256))
		}
		check(t, b)
		_, code := message.Decode(b)
		found[code]++
	}
	if found[api.OK] < 10000 || found[api.ErrForm] < 10000 || len(found) != 2 {
		t.Error("too few of a sort:", found)
	}
}

// P9.3

// different are messages of which no two are equal, valid or not.
func different() []api.Message {
	l := map[string]api.Message{}
	add := func(m api.Message) { l[keyOf(m)] = m }
	for _, kind := range append(noKinds(), 1, 2, 4, 6, 8, 12) {
		add(api.Message{Kind: kind})
	}
	data, path := []byte{1, 2, 3, 0}, []api.Digest{1, 2, 3, 0}
	for _, first := range []api.Message{
		{},
		{Kind: 4, Epoch: 1, Instance: 1, Length: 1, Root: 1, Data: data[:2], Path: path[:2]},
		{Kind: 9, Epoch: 1, Instance: 1, Round: 1, Bit: 1},
	} {
		add(first)
		for _, s := range settings() {
			m := first
			s.set(&m)
			add(m)
		}
		for _, some := range [][]byte{data, data[:0], data[:1], data[:2], data[:3], data[1:2], data[1:], {2, 1}, {1, 3}, {0}, {0, 1, 2}} {
			m := first
			m.Data = some
			add(m)
		}
		for _, some := range [][]api.Digest{path, path[:0], path[:1], path[:2], path[:3], path[1:2], path[1:], {2, 1}, {1, 3}, {0}, {0, 1, 2}, {1 << 32}, {1, 2 + 1<<32}} {
			m := first
			m.Path = some
			add(m)
		}
	}
	keys := slices.Sorted(maps.Keys(l))
	var all []api.Message
	for _, k := range keys {
		all = append(all, l[k])
	}
	return all
}

func TestSame(t *testing.T) {
	l := different()
	if len(l) < 200 {
		t.Fatal("only so many:", len(l))
	}
	for i, a := range l {
		for k, b := range l {
			if got := message.Same(a, b); got != (i == k) {
				t.Errorf("Same(%v, %v) = %v", a, b, got)
			}
		}
		again := a
		again.Data, again.Path = bytes.Clone(a.Data), slices.Clone(a.Path)
		if !message.Same(a, again) || !message.Same(again, a) {
			t.Errorf("Same of %v and its copy", a)
		}
	}
}

func TestSameInOneField(t *testing.T) {
	first := api.Message{Kind: 4, Epoch: 5, Instance: 6, Round: 7, Bit: 8, Root: 9, Length: 10, Data: []byte{1, 2}, Path: []api.Digest{3, 4}}
	for name, change := range map[string]func(m *api.Message){
		"Kind":              func(m *api.Message) { m.Kind++ },
		"Epoch":             func(m *api.Message) { m.Epoch++ },
		"Instance":          func(m *api.Message) { m.Instance++ },
		"Round":             func(m *api.Message) { m.Round++ },
		"Bit":               func(m *api.Message) { m.Bit++ },
		"Root":              func(m *api.Message) { m.Root++ },
		"great Root":        func(m *api.Message) { m.Root += 1 << 63 },
		"Length":            func(m *api.Message) { m.Length++ },
		"Data":              func(m *api.Message) { m.Data = []byte{1, 3} },
		"first of Data":     func(m *api.Message) { m.Data = []byte{0, 2} },
		"beginning of Data": func(m *api.Message) { m.Data = m.Data[:1] },
		"end of Data":       func(m *api.Message) { m.Data = m.Data[1:] },
		"more Data":         func(m *api.Message) { m.Data = []byte{1, 2, 0} },
		"no Data":           func(m *api.Message) { m.Data = nil },
		"Path":              func(m *api.Message) { m.Path = []api.Digest{3, 5} },
		"first of Path":     func(m *api.Message) { m.Path = []api.Digest{2, 4} },
		"beginning of Path": func(m *api.Message) { m.Path = m.Path[:1] },
		"end of Path":       func(m *api.Message) { m.Path = m.Path[1:] },
		"more Path":         func(m *api.Message) { m.Path = []api.Digest{3, 4, 0} },
		"no Path":           func(m *api.Message) { m.Path = nil },
	} {
		m := first
		change(&m)
		if message.Same(first, m) || message.Same(m, first) {
			t.Errorf("Same with another %s", name)
		}
		if !message.Same(m, m) || !message.Same(first, first) {
			t.Errorf("Same of one message with another %s", name)
		}
	}
}

func TestSameOfNilAndEmpty(t *testing.T) {
	lists := []api.Message{{}, {Data: []byte{}}, {Path: []api.Digest{}}, {Data: []byte{}, Path: []api.Digest{}}, {Data: make([]byte, 0, 9)}}
	for _, a := range lists {
		for _, b := range lists {
			for kind := range 14 {
				a.Kind, b.Kind = kind, kind
				if !message.Same(a, b) {
					t.Errorf("Same(%v, %v) is false", a, b)
				}
			}
		}
		if message.Same(a, api.Message{Data: []byte{0}}) || message.Same(api.Message{Path: []api.Digest{0}}, a) {
			t.Errorf("an empty list is the same as a zero")
		}
	}
}

func TestKnownTexts(t *testing.T) {
	for text, m := range map[string]api.Message{
		"init(0,0)":        {Kind: 1, Data: []byte("value")},
		"echo(3,0)":        {Kind: 2, Epoch: 3},
		"ready(0,15)":      {Kind: 3, Instance: 15},
		"shard(1048576,2)": {Kind: 4, Epoch: 1 << 20, Instance: 2, Root: 5, Length: 6, Path: []api.Digest{7}},
		"part(10,9)":       {Kind: 5, Epoch: 10, Instance: 9, Length: 6},
		"done(12,3)":       {Kind: 6, Epoch: 12, Instance: 3, Root: 8},
		"value(1,2,63,0)":  {Kind: 7, Epoch: 1, Instance: 2, Round: 63},
		"aux(2,1,0,1)":     {Kind: 8, Epoch: 2, Instance: 1, Bit: 1},
		"conf(1,4,5,3)":    {Kind: 9, Epoch: 1, Instance: 4, Round: 5, Bit: 3},
		"coin(0,7,8)":      {Kind: 10, Instance: 7, Round: 8, Data: []byte{1}},
		"term(6,5,1)":      {Kind: 11, Epoch: 6, Instance: 5, Bit: 1},
		"term(6,5,0)":      {Kind: 11, Epoch: 6, Instance: 5},
		"key(9,11)":        {Kind: 12, Epoch: 9, Instance: 11, Data: []byte("key")},
		// messages that are not valid
		"init(-1,-2)":     {Kind: 1, Epoch: -1, Instance: -2, Round: 3, Bit: 4},
		"done(0,16)":      {Kind: 6, Instance: 16, Round: 3, Bit: 4},
		"aux(-1,0,-2,7)":  {Kind: 8, Epoch: -1, Round: -2, Bit: 7},
		"coin(0,0,64)":    {Kind: 10, Round: 64, Bit: 1},
		"term(0,0,-9)":    {Kind: 11, Round: 64, Bit: -9},
		"conf(0,0,100,0)": {Kind: 9, Round: 100},
		"key(-9223372036854775808,9223372036854775807)":       {Kind: 12, Epoch: math.MinInt64, Instance: math.MaxInt64},
		"value(0,0,-9223372036854775808,9223372036854775807)": {Kind: 7, Round: math.MinInt64, Bit: math.MaxInt64},
		"ready(1048577,9)": {Kind: 3, Epoch: 1<<20 + 1, Instance: 9, Data: make([]byte, 5000)},
	} {
		if got := message.Of(m); got != text {
			t.Errorf("Of(%v) = %q, not %q", m, got, text)
		}
	}
}

func TestTextOfAll(t *testing.T) {
	each(func(name string, m api.Message) {
		if got, want := message.Of(m), textOf(m); got != want {
			t.Errorf("Of %s = %q, not %q", name, got, want)
		}
	})
}

func TestTextOfNoKind(t *testing.T) {
	for _, kind := range noKinds() {
		for _, m := range []api.Message{{Kind: kind}, {Kind: kind, Epoch: 1, Instance: 2, Round: 3, Bit: 1, Data: []byte{1}}} {
			if got := message.Of(m); got != "" {
				t.Errorf("Of(%v) = %q", m, got)
			}
		}
	}
}

// Consequences.

func TestDecodeOfEncodeIsTheMessage(t *testing.T) {
	for _, m := range samples() {
		b, code := message.Encode(m)
		if code != api.OK {
			t.Fatalf("Encode(%v): %d", m, code)
		}
		got, code := message.Decode(b)
		if code != api.OK || !message.Same(got, m) || keyOf(got) != keyOf(m) {
			t.Errorf("Decode of Encode of %v = %v, %d", m, got, code)
		}
	}
}

func TestDifferentMessagesHaveDifferentBytes(t *testing.T) {
	keys := map[string]string{}
	each(func(name string, m api.Message) {
		b, code := message.Encode(m)
		if code != api.OK {
			return
		}
		key := keyOf(m)
		if other, ok := keys[string(b)]; ok && other != key {
			t.Fatalf("%s has the bytes of another message", name)
		}
		keys[string(b)] = key
	})
	if len(keys) < 1000 {
		t.Error("only so many:", len(keys))
	}
}

// P1

func TestEachCallEnds(t *testing.T) {
	for _, n := range wild() {
		m := api.Message{Kind: n, Epoch: n, Instance: n, Round: n, Bit: n, Root: api.Digest(n), Length: n}
		valid(t, "a wild message", m, api.ErrForm)
		if !message.Same(m, m) || message.Of(m) != "" {
			t.Errorf("Same or Of of %v", m)
		}
		for _, r := range table() {
			m.Kind = r.kind
			valid(t, "a wild message", m, api.ErrRange)
			refused(t, bytesOf(m))
		}
	}
	for size := range 300 {
		for _, x := range []byte{0, 1, 2, 8, 127, 128, 255} {
			check(t, bytes.Repeat([]byte{x}, size))
		}
	}
}

// The length of the path is so great that there is no room for as many elements.
func TestGreatLengthsNeedNoRoom(t *testing.T) {
	b := append(with(api.Message{Kind: api.KindPart}, pathLength, numberOf(math.MaxInt64)), make([]byte, 1<<16)...)
	if n := testing.AllocsPerRun(10, func() { message.Decode(b) }); n > 20 {
		t.Errorf("Decode makes room %v times", n)
	}
	refused(t, b)
}

// Rule 1 of DOC.md.

// inside returns a message whose lists are parts of larger ones, and a function that reports whether those have changed.
func inside(m api.Message) (api.Message, func() bool) {
	data := slices.Concat([]byte{11, 12}, m.Data, []byte{13, 14, 15})
	path := slices.Concat([]api.Digest{21, 22}, m.Path, []api.Digest{23, 24, 25})
	wasData, wasPath := slices.Clone(data), slices.Clone(path)
	m.Data, m.Path = data[2:2+len(m.Data)], path[2:2+len(m.Path)]
	return m, func() bool { return !bytes.Equal(data, wasData) || !slices.Equal(path, wasPath) }
}

func overwrite[T byte | api.Digest](l []T) {
	l = l[:cap(l)]
	for i := range l {
		l[i] ^= 85
	}
}

func TestArgumentsAreNotChangedOrShared(t *testing.T) {
	for _, m := range samples() {
		m, changed := inside(m)
		want := bytesOf(m)
		b, _ := message.Encode(m)
		message.Valid(m)
		message.Of(m)
		message.Same(m, m)
		if changed() {
			t.Fatalf("a call has changed %s", textOf(m))
		}
		again, _ := message.Encode(m)
		overwrite(b)
		if changed() || !bytes.Equal(again, want) {
			t.Fatalf("what Encode returns of %s shares memory", textOf(m))
		}
		overwrite(m.Data)
		overwrite(m.Path)
		if !bytes.Equal(again, want) {
			t.Fatalf("what Encode returns of %s changes with it", textOf(m))
		}
	}
}

func TestDecodeSharesNoMemory(t *testing.T) {
	for _, m := range samples() {
		whole := slices.Concat([]byte{1, 2}, bytesOf(m), []byte{3, 4, 5})
		was := bytes.Clone(whole)
		b := whole[2 : len(whole)-3]
		got, _ := message.Decode(b)
		if !bytes.Equal(whole, was) {
			t.Fatalf("Decode has changed the bytes of %s", textOf(m))
		}
		again, _ := message.Decode(b)
		overwrite(got.Data)
		overwrite(got.Path)
		if !bytes.Equal(whole, was) || keyOf(again) != keyOf(m) {
			t.Fatalf("what Decode returns of %s shares memory", textOf(m))
		}
		overwrite(whole)
		if keyOf(again) != keyOf(m) {
			t.Fatalf("what Decode returns of %s changes with its bytes", textOf(m))
		}
	}
}
