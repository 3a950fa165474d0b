package link_test

import (
	"bytes"
	"fmt"
	"maps"
	"math"
	"math/big"
	"math/rand"
	"slices"
	"testing"

	"asyncbft/api"
	"asyncbft/link"
	"asyncbft/quorum"
)

// newOf, postOf, takeOf, betweenOf and dropOf are the definitions of the chapter, apart from the package.
func newOf(n int) (api.Network, api.Errno) {
	if !slices.Contains([]int{1, 2, 3, 4, 5, 6, 7, 8, 9, 10, 11, 12, 13, 14, 15, 16}, n) {
		return api.Network{}, api.ErrRange
	}
	return api.Network{N: n}, api.OK
}

func replicasOf(n int) []int {
	var l []int
	for replica := 0; replica < n; replica++ {
		l = append(l, replica)
	}
	return l
}

func postOf(w api.Network, from int, l []api.Send) (api.Network, api.Errno) {
	receivers := map[int][]int{-1: replicasOf(w.N)}
	for replica := 0; replica < w.N; replica++ {
		receivers[replica] = []int{replica}
	}
	inRange := slices.Contains(receivers[-1], from)
	var more []api.Packet
	for _, s := range l {
		to, ok := receivers[s.To]
		inRange = inRange && ok
		for _, replica := range to {
			more = append(more, api.Packet{From: from, To: replica, Message: s.Message})
		}
	}
	if !inRange {
		return w, api.ErrRange
	}
	if len(w.Flight)+len(more) > 65536 {
		return w, api.ErrLimit
	}
	return api.Network{N: w.N, Flight: slices.Concat(w.Flight, more)}, api.OK
}

// numberOf is choice modulo count, which is never negative in package big.
func numberOf(choice, count int) int {
	return int(new(big.Int).Mod(big.NewInt(int64(choice)), big.NewInt(int64(count))).Int64())
}

func takeOf(w api.Network, choice int) (api.Packet, api.Network, api.Errno) {
	if len(w.Flight) == 0 {
		return api.Packet{}, w, api.ErrMissing
	}
	number := numberOf(choice, len(w.Flight))
	rest := slices.Concat(w.Flight[:number], w.Flight[number+1:])
	return w.Flight[number], api.Network{N: w.N, Flight: rest}, api.OK
}

func betweenOf(w api.Network, from, to int) []int {
	var l []int
	for number, p := range w.Flight {
		if p.From == from && p.To == to {
			l = append(l, number)
		}
	}
	return l
}

func dropOf(w api.Network, set int) api.Network {
	left := api.Network{N: w.N}
	members := quorum.List(set)
	for _, p := range w.Flight {
		if !slices.Contains(members, p.From) && !slices.Contains(members, p.To) {
			left.Flight = append(left.Flight, p)
		}
	}
	return left
}

// The comparisons, for which nil and empty lists are the same.

func samePackets(a, b api.Packet) bool {
	x, y := a.Message, b.Message
	return a.From == b.From && a.To == b.To && x.Kind == y.Kind && x.Epoch == y.Epoch && x.Instance == y.Instance &&
		x.Round == y.Round && x.Bit == y.Bit && x.Root == y.Root && x.Length == y.Length &&
		bytes.Equal(x.Data, y.Data) && slices.Equal(x.Path, y.Path)
}

func sameNetworks(a, b api.Network) bool {
	return a.N == b.N && slices.EqualFunc(a.Flight, b.Flight, samePackets)
}

// shown leaves out most of many packets.
func shown(w api.Network) string {
	if len(w.Flight) > 20 {
		return fmt.Sprintf("N %d, %d packets, the first ones %v", w.N, len(w.Flight), w.Flight[:20])
	}
	return fmt.Sprintf("N %d, %v", w.N, w.Flight)
}

// whole shows all that the memory of a network has, also what lies beyond lengths.
func whole(w api.Network) string {
	s := fmt.Sprint(w.N, len(w.Flight))
	for _, p := range w.Flight[:cap(w.Flight)] {
		s += fmt.Sprint(p.From, p.To, wholeMessage(p.Message))
	}
	return s
}

func wholeMessage(m api.Message) string {
	s := fmt.Sprint(len(m.Data), len(m.Path))
	m.Data, m.Path = m.Data[:cap(m.Data)], m.Path[:cap(m.Path)]
	return s + fmt.Sprint(m)
}

func wholeSends(l []api.Send) string {
	s := fmt.Sprint(len(l))
	for _, send := range l[:cap(l)] {
		s += fmt.Sprint(send.To, wholeMessage(send.Message))
	}
	return s
}

// The calls, each compared with its definition.

func checkPost(t *testing.T, w api.Network, from int, l []api.Send) api.Network {
	t.Helper()
	got, code := link.Post(w, from, l)
	want, wantCode := postOf(w, from, l)
	if code != wantCode || !sameNetworks(got, want) {
		t.Fatalf("Post(%s, %d, %d sends): %s, %d, not %s, %d", shown(w), from, len(l), shown(got), code, shown(want), wantCode)
	}
	return got
}

func checkTake(t *testing.T, w api.Network, choice int) (api.Packet, api.Network) {
	t.Helper()
	p, got, code := link.Take(w, choice)
	wantPacket, want, wantCode := takeOf(w, choice)
	if code != wantCode || !samePackets(p, wantPacket) || !sameNetworks(got, want) {
		t.Fatalf("Take(%s, %d): %v, %s, %d, not %v, %s, %d", shown(w), choice, p, shown(got), code, wantPacket, shown(want), wantCode)
	}
	return p, got
}

func checkBetween(t *testing.T, w api.Network, from, to int) []int {
	t.Helper()
	got := link.Between(w, from, to)
	if want := betweenOf(w, from, to); !slices.Equal(got, want) {
		t.Fatalf("Between(%s, %d, %d): %v, not %v", shown(w), from, to, got, want)
	}
	return got
}

func checkDrop(t *testing.T, w api.Network, set int) api.Network {
	t.Helper()
	got := link.Drop(w, set)
	if want := dropOf(w, set); !sameNetworks(got, want) {
		t.Fatalf("Drop(%s, %#x): %s, not %s", shown(w), set, shown(got), shown(want))
	}
	return got
}

// What the calls are given.

func wild() []int {
	return []int{
		math.MinInt64, math.MinInt64 + 1, -1 << 62, -1<<62 - 1, -1 << 32, math.MinInt32, -65537, -65536, -65535, -256, -65, -64, -63, -17, -16, -15,
		63, 64, 65, 256, 65535, 65536, 65537, math.MaxInt32, 1 << 32, 1<<32 + 1, 1 << 62, 1<<62 + 1, math.MaxInt64 - 1, math.MaxInt64,
	}
}

// numbers has the numbers from least to greatest, and the wild ones.
func numbers(least, greatest int) []int {
	l := wild()
	for n := least; n <= greatest; n++ {
		l = append(l, n)
	}
	return l
}

// term is a message that has nothing but a number.
func term(epoch int) api.Message { return api.Message{Kind: api.KindTerm, Epoch: epoch} }

// messages are of all kinds, valid ones and others: what is in flight is not checked. Their lists lie in memory that goes on behind them.
func messages() []api.Message {
	data := []byte("data and what follows")
	path := []api.Digest{1, 2, 3, math.MaxUint64, 5, 6, 7, 8, 9, 10, 11, 12, 13}
	return []api.Message{
		{},
		{Kind: api.KindInit, Epoch: 1, Data: data[:4]},
		{Kind: api.KindEcho, Instance: 15, Data: data[:4]},
		{Kind: api.KindReady, Data: []byte{}},
		{Kind: api.KindShard, Epoch: 3, Instance: 2, Root: 77, Length: 9, Data: data[:3], Path: path[:2]},
		{Kind: api.KindPart, Epoch: 3, Instance: 2, Root: 77, Length: 9, Data: data[5:8], Path: path[3:7]},
		{Kind: api.KindDone, Root: math.MaxUint64, Length: 4096},
		{Kind: api.KindValue, Round: 63, Bit: 1},
		{Kind: api.KindAux, Epoch: 1 << 20, Bit: 1},
		{Kind: api.KindConf, Round: 7, Bit: 3},
		{Kind: api.KindCoin, Round: 7, Data: []byte{200}},
		{Kind: api.KindTerm, Bit: 1},
		{Kind: api.KindKey, Data: bytes.Repeat([]byte{7}, 4096)},
		{Kind: 13, Epoch: -1, Instance: 16, Round: 64, Bit: 9, Root: 5, Length: -7, Data: make([]byte, 5000), Path: path},
		{Kind: math.MinInt64, Epoch: math.MaxInt64, Instance: math.MinInt64, Round: -1, Bit: math.MinInt64, Length: math.MaxInt64, Path: []api.Digest{}},
	}
}

// flying returns a network of n replicas with so many packets, which are different, between any of them.
func flying(random *rand.Rand, n, count int) api.Network {
	w := api.Network{N: n}
	l := messages()
	for number := range count {
		m := l[random.Intn(len(l))]
		m.Epoch = number
		w.Flight = append(w.Flight, api.Packet{From: random.Intn(n), To: random.Intn(n), Message: m})
	}
	return w
}

// crowd returns a network with so many packets that have nothing but a number.
func crowd(n, count int) api.Network {
	w := api.Network{N: n, Flight: make([]api.Packet, count)}
	for number := range w.Flight {
		w.Flight[number] = api.Packet{From: number % n, To: number / n % n, Message: term(number)}
	}
	return w
}

func randomSends(random *rand.Rand, n, count int) []api.Send {
	var l []api.Send
	kinds := messages()
	for range count {
		l = append(l, api.Send{To: random.Intn(n+1) - 1, Message: kinds[random.Intn(len(kinds))]})
	}
	return l
}

// repeated returns so many sends to one receiver.
func repeated(to, count int) []api.Send {
	l := make([]api.Send, count)
	for i := range l {
		l[i] = api.Send{To: to, Message: term(1000000 - i)}
	}
	return l
}

// epochs tells the packets that have nothing but a number apart.
func epochs(w api.Network) []int {
	var l []int
	for _, p := range w.Flight {
		l = append(l, p.Message.Epoch)
	}
	return l
}

// P11.1

func TestNew(t *testing.T) {
	for _, n := range numbers(-40, 40) {
		w, code := link.New(n)
		want, wantCode := newOf(n)
		if code != wantCode || !sameNetworks(w, want) {
			t.Errorf("New(%d): %s, %d", n, shown(w), code)
		}
	}
}

func TestNewAtTheEnds(t *testing.T) {
	for n, want := range map[int]api.Errno{
		math.MinInt64: api.ErrRange, -1: api.ErrRange, 0: api.ErrRange, 1: api.OK, 2: api.OK,
		api.MaxReplicas: api.OK, api.MaxReplicas + 1: api.ErrRange, math.MaxInt64: api.ErrRange,
	} {
		w, code := link.New(n)
		if code != want || len(w.Flight) != 0 || code == api.OK && w.N != n || code != api.OK && w.N != 0 {
			t.Errorf("New(%d): %s, %d", n, shown(w), code)
		}
	}
}

// P11.2

// Here the packets are written out, not computed.
func TestPostThatIsWrittenOut(t *testing.T) {
	w, _ := link.New(3)
	steps := []struct {
		from int
		l    []api.Send
		more []api.Packet
	}{
		{0, nil, nil},
		{0, []api.Send{}, nil},
		{1, []api.Send{{To: -1, Message: term(5)}}, []api.Packet{{From: 1, To: 0, Message: term(5)}, {From: 1, To: 1, Message: term(5)}, {From: 1, To: 2, Message: term(5)}}},
		{0, []api.Send{{To: 0, Message: term(6)}}, []api.Packet{{From: 0, To: 0, Message: term(6)}}},
		{2, []api.Send{{To: 1, Message: term(7)}}, []api.Packet{{From: 2, To: 1, Message: term(7)}}},
		{2, []api.Send{{To: 1, Message: term(7)}, {To: 1, Message: term(7)}}, []api.Packet{{From: 2, To: 1, Message: term(7)}, {From: 2, To: 1, Message: term(7)}}},
		{2, []api.Send{{To: 2, Message: term(9)}, {To: -1, Message: term(8)}, {To: 0, Message: term(7)}}, []api.Packet{
			{From: 2, To: 2, Message: term(9)}, {From: 2, To: 0, Message: term(8)}, {From: 2, To: 1, Message: term(8)}, {From: 2, To: 2, Message: term(8)}, {From: 2, To: 0, Message: term(7)},
		}},
	}
	var want []api.Packet
	for i, step := range steps {
		next, code := link.Post(w, step.from, step.l)
		want = append(want, step.more...)
		if code != api.OK || !sameNetworks(next, api.Network{N: 3, Flight: want}) {
			t.Fatalf("step %d: %s, %d", i, shown(next), code)
		}
		w = next
	}
	if len(w.Flight) != 12 {
		t.Errorf("in the end there are %d packets", len(w.Flight))
	}
}

func TestPostOfOne(t *testing.T) {
	for n := 1; n <= 16; n++ {
		w := crowd(n, 3)
		for _, from := range numbers(-3, 20) {
			for _, to := range numbers(-3, 20) {
				l := []api.Send{{To: to, Message: term(9)}}
				_, code := link.Post(w, from, l)
				if ok := from >= 0 && from < n && to >= -1 && to < n; ok != (code == api.OK) || !ok && code != api.ErrRange {
					t.Fatalf("with N %d, Post from %d to %d: %d", n, from, to, code)
				}
				checkPost(t, w, from, l)
			}
		}
	}
}

func TestPostOfNothing(t *testing.T) {
	for n := 1; n <= 16; n++ {
		for _, w := range []api.Network{{N: n}, crowd(n, 5)} {
			for _, from := range numbers(-3, 20) {
				checkPost(t, w, from, nil)
				checkPost(t, w, from, []api.Send{})
			}
		}
	}
}

func TestPostOfLists(t *testing.T) {
	random := rand.New(rand.NewSource(1))
	for range 3000 {
		n := random.Intn(16) + 1
		w := flying(random, n, random.Intn(12))
		checkPost(t, w, random.Intn(n), randomSends(random, n, random.Intn(10)))
	}
}

// One wrong receiver is enough, wherever it is in the list, also where only the last one is wrong.
func TestPostOfListsWithAWrongReceiver(t *testing.T) {
	random := rand.New(rand.NewSource(2))
	for n := 1; n <= 16; n++ {
		w := flying(random, n, 4)
		for _, count := range []int{1, 2, 3, 8} {
			for at := range count {
				for _, to := range []int{-2, -3, n, n + 1, math.MinInt64, math.MaxInt64} {
					l := randomSends(random, n, count)
					l[at].To = to
					got, code := link.Post(w, n-1, l)
					if code != api.ErrRange || !sameNetworks(got, w) {
						t.Fatalf("with N %d, Post to %d as number %d of %d: %s, %d", n, to, at, count, shown(got), code)
					}
				}
			}
		}
	}
}

func TestPostKeepsMessages(t *testing.T) {
	for _, m := range messages() {
		w := checkPost(t, api.Network{N: 2}, 1, []api.Send{{To: 0, Message: m}, {To: -1, Message: m}})
		for number, to := range []int{0, 0, 1} {
			if !samePackets(w.Flight[number], api.Packet{From: 1, To: to, Message: m}) {
				t.Errorf("the packet %d of kind %d has changed", number, m.Kind)
			}
		}
	}
}

// There may be MaxFlight packets, and no more.
func TestPostAtTheLimit(t *testing.T) {
	for _, n := range []int{1, 2, 16} {
		for _, room := range []int{n + 1, n, n - 1, 0, -1} {
			w := crowd(n, api.MaxFlight-room)
			for _, l := range [][]api.Send{
				nil, repeated(0, 1), repeated(n-1, n), repeated(0, n+1), repeated(-1, 1), repeated(-1, 2),
				slices.Concat(repeated(-1, 1), repeated(0, 1)), slices.Concat(repeated(0, 1), repeated(-1, 1)),
			} {
				checkPost(t, w, n-1, l)
			}
		}
	}
}

func TestPostAtTheLimitThatIsWrittenOut(t *testing.T) {
	full := crowd(16, 65536)
	for i, x := range []struct {
		count, from int
		l           []api.Send
		want        api.Errno
		packets     int
	}{
		{65536, 0, nil, api.OK, 65536},
		{65536, 0, repeated(0, 1), api.ErrLimit, 65536},
		{65536, 0, repeated(-1, 1), api.ErrLimit, 65536},
		{65535, 0, repeated(15, 1), api.OK, 65536},
		{65535, 0, repeated(15, 2), api.ErrLimit, 65535},
		{65535, 0, repeated(-1, 1), api.ErrLimit, 65535},
		{65521, 0, repeated(-1, 1), api.ErrLimit, 65521},
		{65520, 0, repeated(-1, 1), api.OK, 65536},
		{65520, 0, slices.Concat(repeated(-1, 1), repeated(3, 1)), api.ErrLimit, 65520},
		{65519, 0, slices.Concat(repeated(3, 1), repeated(-1, 1)), api.OK, 65536},
		{0, 0, repeated(-1, 4096), api.OK, 65536},
		{0, 0, repeated(-1, 4097), api.ErrLimit, 0},
		{0, 0, repeated(7, 65536), api.OK, 65536},
		{0, 0, repeated(7, 65537), api.ErrLimit, 0},
		{0, 0, repeated(-1, 100000), api.ErrLimit, 0},
	} {
		w := api.Network{N: 16, Flight: full.Flight[:x.count]}
		got, code := link.Post(w, x.from, x.l)
		if code != x.want || len(got.Flight) != x.packets {
			t.Errorf("%d: Post of %d sends at %d packets: %d packets, %d", i, len(x.l), x.count, len(got.Flight), code)
		}
		if code != api.OK && !sameNetworks(got, w) {
			t.Errorf("%d: the network has changed beside an error", i)
		}
	}
}

// What is not a replica comes before what is too much, wherever it is.
func TestPostWithBothErrors(t *testing.T) {
	for _, w := range []api.Network{crowd(16, 65536), crowd(16, 65530), crowd(3, 65536)} {
		for _, x := range []struct {
			from int
			l    []api.Send
			want api.Errno
		}{
			{-1, repeated(-1, 3), api.ErrRange},
			{w.N, repeated(-1, 3), api.ErrRange},
			{0, slices.Concat(repeated(-1, 3), repeated(-2, 1)), api.ErrRange},
			{0, slices.Concat(repeated(-1, 3), repeated(w.N, 1)), api.ErrRange},
			{0, slices.Concat(repeated(0, 70000), repeated(w.N, 1)), api.ErrRange},
			{0, slices.Concat(repeated(-2, 1), repeated(-1, 3)), api.ErrRange},
			{w.N - 1, repeated(-1, 3), api.ErrLimit},
		} {
			got, code := link.Post(w, x.from, x.l)
			if code != x.want || !sameNetworks(got, w) {
				t.Errorf("with N %d, Post of %d sends from %d: %d", w.N, len(x.l), x.from, code)
			}
		}
	}
}

// P11.3

func TestTakeThatIsWrittenOut(t *testing.T) {
	w := crowd(2, 5)
	for choice, want := range map[int]int{
		0: 0, 1: 1, 4: 4, 5: 0, 6: 1, 12: 2, -1: 4, -2: 3, -5: 0, -6: 4,
		math.MaxInt64: 2, math.MaxInt64 - 2: 0, math.MinInt64: 2, math.MinInt64 + 3: 0,
	} {
		p, rest, code := link.Take(w, choice)
		left := slices.DeleteFunc([]int{0, 1, 2, 3, 4}, func(number int) bool { return number == want })
		if code != api.OK || !samePackets(p, w.Flight[want]) || rest.N != 2 || !slices.Equal(epochs(rest), left) {
			t.Errorf("Take(%d): %v, %s, %d", choice, p, shown(rest), code)
		}
	}
}

func TestTake(t *testing.T) {
	random := rand.New(rand.NewSource(3))
	for count := range 20 {
		for range 8 {
			w := flying(random, random.Intn(16)+1, count)
			for _, choice := range numbers(-3*count-1, 3*count+1) {
				checkTake(t, w, choice)
			}
		}
	}
}

func TestTakeOfNone(t *testing.T) {
	for n := 1; n <= 16; n++ {
		for _, w := range []api.Network{{N: n}, {N: n, Flight: []api.Packet{}}, {N: n, Flight: crowd(n, 3).Flight[:0]}} {
			for _, choice := range numbers(-20, 20) {
				p, rest, code := link.Take(w, choice)
				if code != api.ErrMissing || !samePackets(p, api.Packet{}) || rest.N != n || len(rest.Flight) != 0 {
					t.Errorf("Take(%d) of none: %v, %s, %d", choice, p, shown(rest), code)
				}
			}
		}
	}
}

func TestTakeOfMany(t *testing.T) {
	for _, count := range []int{65535, 65536} {
		w := crowd(16, count)
		for _, choice := range []int{0, 1, count - 1, count, -1, -count, math.MaxInt64, math.MinInt64} {
			checkTake(t, w, choice)
		}
	}
}

func TestBetweenThatIsWrittenOut(t *testing.T) {
	w := api.Network{N: 3, Flight: []api.Packet{{From: 1, To: 2}, {From: 2, To: 1}, {From: 1, To: 1}, {From: 1, To: 2}, {From: 0, To: 2}, {From: 1, To: 2}}}
	for pair, want := range map[[2]int][]int{
		{0, 0}: nil, {0, 1}: nil, {0, 2}: {4}, {1, 0}: nil, {1, 1}: {2}, {1, 2}: {0, 3, 5}, {2, 0}: nil, {2, 1}: {1}, {2, 2}: nil,
		{-1, 2}: nil, {1, -1}: nil, {-1, -1}: nil, {3, 0}: nil, {1, 3}: nil, {16, 16}: nil,
	} {
		if got := link.Between(w, pair[0], pair[1]); !slices.Equal(got, want) {
			t.Errorf("Between %v: %v", pair, got)
		}
	}
}

func TestBetween(t *testing.T) {
	random := rand.New(rand.NewSource(4))
	for n := 1; n <= 16; n++ {
		for _, count := range []int{0, 1, 2, n, 40, 300} {
			w := flying(random, n, count)
			for from := -2; from <= n+1; from++ {
				for to := -2; to <= n+1; to++ {
					checkBetween(t, w, from, to)
				}
			}
			for _, replica := range wild() {
				if l := slices.Concat(checkBetween(t, w, replica, 0), checkBetween(t, w, 0, replica), checkBetween(t, w, replica, replica)); len(l) != 0 {
					t.Errorf("packets of the replica %d: %v", replica, l)
				}
			}
		}
	}
	full := crowd(16, 65536)
	if l := checkBetween(t, full, 3, 15); len(l) != 256 {
		t.Errorf("of many packets, %d are found", len(l))
	}
}

func TestDropThatIsWrittenOut(t *testing.T) {
	w := api.Network{N: 16}
	for number, pair := range [][2]int{{0, 1}, {1, 0}, {2, 3}, {3, 3}, {15, 2}, {4, 15}, {5, 6}} {
		w.Flight = append(w.Flight, api.Packet{From: pair[0], To: pair[1], Message: term(number)})
	}
	for set, want := range map[int][]int{
		0: {0, 1, 2, 3, 4, 5, 6}, 1: {2, 3, 4, 5, 6}, 2: {2, 3, 4, 5, 6}, 4: {0, 1, 3, 5, 6}, 8: {0, 1, 4, 5, 6}, 16: {0, 1, 2, 3, 4, 6},
		32: {0, 1, 2, 3, 4, 5}, 64: {0, 1, 2, 3, 4, 5}, 128: {0, 1, 2, 3, 4, 5, 6}, 0x8000: {0, 1, 2, 3, 6}, 0x8009: {6}, 0xffff: nil,
		-1: nil, -2: {}, -1 << 16: {0, 1, 2, 3, 4, 5, 6}, -1 << 15: {0, 1, 2, 3, 6}, math.MinInt64: {0, 1, 2, 3, 4, 5, 6}, math.MinInt64 + 1: {2, 3, 4, 5, 6},
		1 << 16: {0, 1, 2, 3, 4, 5, 6}, 1<<20 | 8: {0, 1, 4, 5, 6}, math.MaxInt64: nil, math.MaxInt64 - 0xffff: {0, 1, 2, 3, 4, 5, 6},
	} {
		left := link.Drop(w, set)
		if left.N != 16 || !slices.Equal(epochs(left), want) {
			t.Errorf("Drop of %#x: %s", set, shown(left))
		}
	}
}

func TestDrop(t *testing.T) {
	random := rand.New(rand.NewSource(5))
	for n := 1; n <= 16; n++ {
		for _, count := range []int{0, 1, 2, n, 60} {
			w := flying(random, n, count)
			for replica := range 64 {
				checkDrop(t, w, 1<<replica)
				checkDrop(t, w, -1<<replica)
				checkDrop(t, w, ^(1 << replica))
			}
			for range 40 {
				set := random.Intn(1 << 16)
				left := checkDrop(t, w, set)
				if extra := checkDrop(t, w, set|random.Int()<<16); !sameNetworks(left, extra) {
					t.Errorf("bits beside %#x count", set)
				}
			}
			for _, set := range wild() {
				checkDrop(t, w, set)
			}
		}
	}
}

func TestDropOfAllSets(t *testing.T) {
	w := api.Network{N: 7}
	for from := range 7 {
		for to := range 7 {
			w.Flight = append(w.Flight, api.Packet{From: from, To: to, Message: term(10*from + to)})
		}
	}
	for set := range 1 << 8 {
		checkDrop(t, w, set)
	}
}

// Consequences.

// What is taken was posted, once, and what was posted is taken or still in flight.
func TestNoPacketIsLostOrMade(t *testing.T) {
	random := rand.New(rand.NewSource(6))
	for range 60 {
		n := random.Intn(16) + 1
		w, _ := link.New(n)
		posted, taken := map[int]int{}, map[int]int{}
		next := 0
		for range 150 {
			if random.Intn(3) == 0 {
				to := random.Intn(n+1) - 1
				w = checkPost(t, w, random.Intn(n), []api.Send{{To: to, Message: term(next)}})
				posted[next] = 1
				if to == -1 {
					posted[next] = n
				}
				next++
			} else if len(w.Flight) > 0 {
				var p api.Packet
				p, w = checkTake(t, w, int(random.Uint64()))
				taken[p.Message.Epoch]++
			}
		}
		for _, epoch := range epochs(w) {
			taken[epoch]++
		}
		if !maps.Equal(posted, taken) {
			t.Fatalf("with N %d, posted %v, taken or left %v", n, posted, taken)
		}
	}
}

func TestPacketsTakenInOrder(t *testing.T) {
	random := rand.New(rand.NewSource(7))
	for range 30 {
		n := random.Intn(16) + 1
		w, _ := link.New(n)
		var posted, taken []api.Packet
		for range 20 {
			l, from := randomSends(random, n, random.Intn(4)), random.Intn(n)
			before := len(w.Flight)
			w = checkPost(t, w, from, l)
			posted = append(posted, w.Flight[before:]...)
			for range random.Intn(3) {
				if len(w.Flight) > 0 {
					var p api.Packet
					p, w = checkTake(t, w, 0)
					taken = append(taken, p)
				}
			}
		}
		for len(w.Flight) > 0 {
			var p api.Packet
			p, w = checkTake(t, w, 0)
			taken = append(taken, p)
		}
		if !slices.EqualFunc(posted, taken, samePackets) {
			t.Fatalf("with N %d, packets come in another order than they were posted", n)
		}
	}
}

// Each packet is between one pair of replicas, and is taken by its number.
func TestEachPacketIsBetweenOnePair(t *testing.T) {
	random := rand.New(rand.NewSource(8))
	for n := 1; n <= 16; n++ {
		w := flying(random, n, 50)
		var all []int
		for from := range n {
			for to := range n {
				l := link.Between(w, from, to)
				all = append(all, l...)
				for _, number := range l {
					if p, _ := checkTake(t, w, number); p.From != from || p.To != to {
						t.Errorf("the packet %d goes from %d to %d, not from %d to %d", number, p.From, p.To, from, to)
					}
				}
			}
		}
		slices.Sort(all)
		if !slices.Equal(all, replicasOf(50)) {
			t.Errorf("with N %d, the packets between all pairs: %v", n, all)
		}
	}
}

func TestDroppedReplicasHaveNoPackets(t *testing.T) {
	random := rand.New(rand.NewSource(9))
	for range 200 {
		n := random.Intn(16) + 1
		w, set := flying(random, n, 40), random.Intn(1<<n)
		left := link.Drop(w, set)
		for from := range n {
			for to := range n {
				count := len(link.Between(left, from, to))
				if quorum.Has(set, from) || quorum.Has(set, to) {
					if count != 0 {
						t.Errorf("with the set %#x dropped, there are packets from %d to %d", set, from, to)
					}
				} else if count != len(link.Between(w, from, to)) {
					t.Errorf("with the set %#x dropped, packets from %d to %d are lost", set, from, to)
				}
			}
		}
	}
}

// P1: nothing is promised of what comes out here but that it does, and that it is the same again.

// strangers has networks for which the calls are not specified.
func strangers() []api.Network {
	var l []api.Network
	for _, n := range append(wild(), -2, -1, 0, 1, 2, 16, 17, 18) {
		if n >= 65535 && n <= 65537 {
			continue // a Send to all makes so many packets that a few of them are enough, below
		}
		for _, replicas := range [][]int{nil, {0, 1, 2}, {-1, n, n - 1, n + 1}, {math.MinInt64, math.MaxInt64, 16, 1 << 32}} {
			w := api.Network{N: n}
			for number, from := range replicas {
				for _, to := range replicas {
					w.Flight = append(w.Flight, api.Packet{From: from, To: to, Message: term(number)})
				}
			}
			l = append(l, w)
		}
	}
	return l
}

func TestAllArgumentsHaveAnEnd(t *testing.T) {
	long := slices.Concat(repeated(0, 1), repeated(-1, 70000))
	for _, w := range strangers() {
		for _, from := range []int{math.MinInt64, -1, 0, 1, 15, 16, w.N - 1, w.N, math.MaxInt64} {
			for _, l := range [][]api.Send{nil, repeated(-1, 1), repeated(-1, 3), repeated(0, 2), repeated(from, 2), repeated(-2, 1), long} {
				a, code := link.Post(w, from, l)
				b, again := link.Post(w, from, l)
				if code != again || !sameNetworks(a, b) {
					t.Fatalf("Post(%s, %d) has two results", shown(w), from)
				}
			}
			p, a, code := link.Take(w, from)
			q, b, again := link.Take(w, from)
			if code != again || !samePackets(p, q) || !sameNetworks(a, b) {
				t.Fatalf("Take(%s, %d) has two results", shown(w), from)
			}
			if !slices.Equal(link.Between(w, from, w.N), link.Between(w, from, w.N)) || !sameNetworks(link.Drop(w, from), link.Drop(w, from)) {
				t.Fatalf("%s has two results with %d", shown(w), from)
			}
		}
	}
}

// More replicas than there is room for packets: they are too many, also where twice as many are less than none modulo 2^64.
func TestPostToMoreReplicasThanThereIsRoomFor(t *testing.T) {
	for _, n := range []int{65536, 65537, 1 << 20, 1 << 32, 1 << 62, 1<<62 + 1, math.MaxInt64 - 1, math.MaxInt64} {
		w := api.Network{N: n, Flight: []api.Packet{{From: 0, To: 1, Message: term(1)}}}
		for _, count := range []int{1, 2, 3, 4, 5, 1000} {
			got, code := link.Post(w, 0, repeated(-1, count))
			if code != api.ErrLimit || !sameNetworks(got, w) {
				t.Errorf("with N %d, Post of %d sends to all: %s, %d", n, count, shown(got), code)
			}
		}
	}
}

// Rule 1 of DOC.md.

// roomy has its lists, and the list of its packets, in memory that goes on behind them; two of its packets have the same lists.
func roomy() api.Network {
	flight := make([]api.Packet, 0, 12)
	for number, m := range messages()[:12] {
		m.Data = append(make([]byte, 0, 9), m.Data[:min(3, len(m.Data))]...)
		m.Path = append(make([]api.Digest, 0, 5), m.Path...)
		flight = append(flight, api.Packet{From: number % 3, To: number % 2, Message: m})
	}
	flight[5].Message = flight[4].Message
	return api.Network{N: 3, Flight: flight[:8]}
}

func roomySends() []api.Send {
	m := roomy().Flight[4].Message
	l := make([]api.Send, 0, 6)
	l = append(l, api.Send{To: -1, Message: m}, api.Send{To: 1, Message: m}, api.Send{To: 0, Message: roomy().Flight[1].Message}, api.Send{To: -1, Message: m})
	return l[:3]
}

// mark overwrites the lists of a message with a number, also beyond their lengths.
func mark(m api.Message, n int) {
	for i := range m.Data[:cap(m.Data)] {
		m.Data[:cap(m.Data)][i] = byte(n)
	}
	for i := range m.Path[:cap(m.Path)] {
		m.Path[:cap(m.Path)][i] = api.Digest(n)
	}
}

// isMarked reports whether the lists of a message still have this number alone.
func isMarked(m api.Message, n int) bool {
	other := slices.ContainsFunc(m.Data[:cap(m.Data)], func(b byte) bool { return b != byte(n) })
	return !other && !slices.ContainsFunc(m.Path[:cap(m.Path)], func(d api.Digest) bool { return d != api.Digest(n) })
}

// spoil overwrites all that a result has, each message with a number of its own, so that it shows whether two of them share memory.
func spoil(t *testing.T, name string, w api.Network, taken api.Packet) {
	t.Helper()
	packets := append(slices.Clone(w.Flight), taken)
	for number, p := range packets {
		mark(p.Message, 100+number)
	}
	for number, p := range packets {
		if !isMarked(p.Message, 100+number) {
			t.Errorf("%s: the packet %d shares memory with another one", name, number)
		}
	}
	for number := range w.Flight[:cap(w.Flight)] {
		w.Flight[:cap(w.Flight)][number] = api.Packet{From: 99}
	}
}

// results are calls of all functions that return networks, on a network of three replicas with at least 5 packets.
func results() map[string]func(w api.Network, l []api.Send) (api.Packet, api.Network) {
	post := func(from int) func(w api.Network, l []api.Send) (api.Packet, api.Network) {
		return func(w api.Network, l []api.Send) (api.Packet, api.Network) {
			x, _ := link.Post(w, from, l)
			return api.Packet{}, x
		}
	}
	take := func(choice int) func(w api.Network, l []api.Send) (api.Packet, api.Network) {
		return func(w api.Network, l []api.Send) (api.Packet, api.Network) {
			p, x, _ := link.Take(w, choice)
			return p, x
		}
	}
	drop := func(set int) func(w api.Network, l []api.Send) (api.Packet, api.Network) {
		return func(w api.Network, l []api.Send) (api.Packet, api.Network) {
			return api.Packet{}, link.Drop(w, set)
		}
	}
	return map[string]func(w api.Network, l []api.Send) (api.Packet, api.Network){
		"Post": post(2), "Post with ErrRange": post(3), "Take": take(4), "Take of the first": take(0), "Take of the last": take(-1), "Drop of none": drop(0), "Drop": drop(4),
	}
}

// Each call is made twice: the first result is overwritten, and neither the arguments nor the second one may change by it.
func TestArgumentsAndOtherResultsStay(t *testing.T) {
	for name, call := range results() {
		for _, l := range [][]api.Send{nil, roomySends()} {
			w := roomy()
			before, sent := whole(w), wholeSends(l)
			p, first := call(w, l)
			q, second := call(w, l)
			if whole(w) != before || wholeSends(l) != sent {
				t.Errorf("%s changes an argument", name)
			}
			kept := wholeMessage(q.Message) + whole(second)
			spoil(t, name, first, p)
			if whole(w) != before || wholeSends(l) != sent {
				t.Errorf("%s shares memory with an argument", name)
			}
			if wholeMessage(q.Message)+whole(second) != kept || len(second.Flight) == 0 {
				t.Errorf("two results of %s share memory, or are empty", name)
			}
		}
	}
}

// The network that comes back from a refused Post is a copy, too.
func TestFullNetworkStays(t *testing.T) {
	w := crowd(3, 65536)
	copy(w.Flight, roomy().Flight)
	x, code := link.Post(w, 0, roomySends())
	if code != api.ErrLimit {
		t.Errorf("Post: %d", code)
	}
	for i := range x.Flight {
		mark(x.Flight[i].Message, 100)
		x.Flight[i].From = 99
	}
	want := crowd(3, 65536)
	copy(want.Flight, roomy().Flight)
	if !sameNetworks(w, want) {
		t.Error("Post with ErrLimit shares memory with the network")
	}
}

func TestTakeOfNoneSharesNoMemory(t *testing.T) {
	w := roomy()
	before := whole(w)
	w.Flight = w.Flight[:0]
	_, x, _ := link.Take(w, 0)
	spoil(t, "Take of none", x, api.Packet{})
	w.Flight = w.Flight[:8]
	if whole(w) != before {
		t.Error("Take of none shares memory with the network")
	}
}

func TestNumbersShareNoMemory(t *testing.T) {
	w := roomy()
	before := whole(w)
	first, second := link.Between(w, 1, 1), link.Between(w, 1, 1)
	want := slices.Clone(second)
	for i := range first[:cap(first)] {
		first[:cap(first)][i] = 99
	}
	if whole(w) != before || len(want) == 0 || !slices.Equal(second, want) {
		t.Errorf("Between shares memory: %v, %v", second, want)
	}
}

func TestNewSharesNoMemory(t *testing.T) {
	a, _ := link.New(4)
	b, _ := link.New(4)
	a.N = 5
	a.Flight = append(a.Flight, api.Packet{From: 1})
	if b.N != 4 || len(b.Flight) != 0 || len(b.Flight[:cap(b.Flight)]) != 0 {
		t.Errorf("New: %s", shown(b))
	}
}
