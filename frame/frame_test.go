package frame_test

import (
	"bytes"
	"math/big"
	"math/rand"
	"slices"
	"testing"

	"barrow/api"
	"barrow/frame"
	"barrow/pack"
)

// joined is the parts, one behind the other, in memory of its own.
func joined(parts ...[]byte) []byte {
	return bytes.Join(parts, nil)
}

// filled is so many bytes, no two neighbours alike.
func filled(size int) []byte {
	b := make([]byte, size)
	for i := range b {
		b[i] = byte(i*7 + 3)
	}
	return b
}

// wrapped is the frames of loads, one behind the other.
func wrapped(t *testing.T, loads ...[]byte) []byte {
	t.Helper()
	var b []byte
	for _, load := range loads {
		f, err := frame.Wrap(load)
		if err != api.OK {
			t.Fatalf("Wrap of %d bytes: error %d", len(load), err)
		}
		b = append(b, f...)
	}
	return b
}

func sameLoads(a, b [][]byte) bool {
	return slices.EqualFunc(a, b, bytes.Equal)
}

// push is a part, and what is told with it and behind it.
type push struct {
	b     []byte
	loads [][]byte
	err   api.Errno
	waits int
	dead  bool
}

// checkPushes pushes the parts into a new feed.
func checkPushes(t *testing.T, name string, pushes ...push) {
	t.Helper()
	x := frame.New()
	if x.Waits() != 0 || x.Dead() {
		t.Errorf("%s: a new feed: %d bytes wait, dead is %t", name, x.Waits(), x.Dead())
	}
	for i, p := range pushes {
		loads, err := x.Push(p.b)
		if !sameLoads(loads, p.loads) || err != p.err {
			t.Errorf("%s: push %d: %v, error %d, not %v, %d", name, i, loads, err, p.loads, p.err)
		}
		if x.Waits() != p.waits || x.Dead() != p.dead {
			t.Errorf("%s: behind push %d: %d bytes wait, dead is %t, not %d, %t", name, i, x.Waits(), x.Dead(), p.waits, p.dead)
		}
	}
}

func TestP4_1Wrap(t *testing.T) {
	cases := []struct {
		name string
		load []byte
		want []byte
		err  api.Errno
	}{
		{"nil", nil, []byte{0}, api.OK},
		{"no bytes", []byte{}, []byte{0}, api.OK},
		{"one byte", []byte{0}, []byte{1, 0}, api.OK},
		{"two bytes", []byte{97, 98}, []byte{2, 97, 98}, api.OK},
		{"a frame", []byte{2, 97, 98}, []byte{3, 2, 97, 98}, api.OK},
		{"127 bytes", filled(127), joined([]byte{127}, filled(127)), api.OK},
		{"128 bytes", filled(128), joined([]byte{128, 1}, filled(128)), api.OK},
		{"MaxFrame - 1 bytes", filled(4095), joined([]byte{255, 31}, filled(4095)), api.OK},
		{"MaxFrame bytes", filled(4096), joined([]byte{128, 32}, filled(4096)), api.OK},
		{"MaxFrame + 1 bytes", filled(4097), nil, api.ErrLong},
		{"MaxFrame + 2 bytes", filled(4098), nil, api.ErrLong},
		{"many bytes", filled(1 << 20), nil, api.ErrLong},
	}
	for _, c := range cases {
		got, err := frame.Wrap(c.load)
		if !bytes.Equal(got, c.want) || err != c.err {
			t.Errorf("Wrap of %s: %d bytes, %v.., error %d, not %d bytes, %d", c.name, len(got), got[:min(4, len(got))], err, len(c.want), c.err)
		}
	}
}

func TestP4_2Examples(t *testing.T) {
	checkPushes(t, "2 97; then 98 0 1",
		push{[]byte{2, 97}, nil, api.OK, 2, false},
		push{[]byte{98, 0, 1}, [][]byte{[]byte("ab"), {}}, api.OK, 1, false})
	checkPushes(t, "128 0", push{[]byte{128, 0}, nil, api.ErrForm, 0, true})
	checkPushes(t, "129 32", push{[]byte{129, 32}, nil, api.ErrLong, 0, true})
}

func TestP4_2NoBytes(t *testing.T) {
	checkPushes(t, "no bytes",
		push{nil, nil, api.OK, 0, false},
		push{[]byte{}, nil, api.OK, 0, false},
		push{[]byte{1}, nil, api.OK, 1, false},
		push{nil, nil, api.OK, 1, false},
		push{[]byte{}, nil, api.OK, 1, false},
		push{[]byte{5}, [][]byte{{5}}, api.OK, 0, false},
		push{nil, nil, api.OK, 0, false})
}

func TestP4_2FramesThatCameWhole(t *testing.T) {
	great := wrapped(t, filled(api.MaxFrame))
	checkPushes(t, "an empty load", push{[]byte{0}, [][]byte{{}}, api.OK, 0, false})
	checkPushes(t, "empty loads", push{[]byte{0, 0, 0}, [][]byte{{}, {}, {}}, api.OK, 0, false})
	checkPushes(t, "a load of one byte", push{[]byte{1, 0}, [][]byte{{0}}, api.OK, 0, false})
	checkPushes(t, "a load that looks like frames", push{[]byte{3, 128, 0, 1}, [][]byte{{128, 0, 1}}, api.OK, 0, false})
	checkPushes(t, "a load of MaxFrame bytes", push{great, [][]byte{filled(api.MaxFrame)}, api.OK, 0, false})
	checkPushes(t, "several in one part",
		push{[]byte{1, 7, 0, 3, 8, 9, 10, 1, 0}, [][]byte{{7}, {}, {8, 9, 10}, {0}}, api.OK, 0, false},
		push{[]byte{2, 1, 1}, [][]byte{{1, 1}}, api.OK, 0, false})
	checkPushes(t, "several of MaxFrame bytes",
		push{joined(great, []byte{0}, great, great[:9]), [][]byte{filled(api.MaxFrame), {}, filled(api.MaxFrame)}, api.OK, 9, false})
}

func TestP4_2FramesThatHaveNotComeWhole(t *testing.T) {
	great := wrapped(t, filled(api.MaxFrame))
	checkPushes(t, "a number in two parts",
		push{[]byte{128}, nil, api.OK, 1, false},
		push{[]byte{1}, nil, api.OK, 2, false},
		push{filled(127), nil, api.OK, 129, false},
		push{[]byte{9}, [][]byte{joined(filled(127), []byte{9})}, api.OK, 0, false})
	checkPushes(t, "a load in three parts",
		push{[]byte{3, 1}, nil, api.OK, 2, false},
		push{[]byte{2}, nil, api.OK, 3, false},
		push{[]byte{3}, [][]byte{{1, 2, 3}}, api.OK, 0, false})
	checkPushes(t, "no byte of the load",
		push{[]byte{1}, nil, api.OK, 1, false},
		push{[]byte{128}, [][]byte{{128}}, api.OK, 0, false})
	checkPushes(t, "all but the last of MaxFrame bytes",
		push{great[:len(great)-1], nil, api.OK, 4097, false},
		push{great[len(great)-1:], [][]byte{filled(api.MaxFrame)}, api.OK, 0, false})
	checkPushes(t, "a number behind a whole frame",
		push{[]byte{1, 5, 200}, [][]byte{{5}}, api.OK, 1, false},
		push{joined([]byte{1}, filled(200), []byte{4}), [][]byte{filled(200)}, api.OK, 1, false})
	checkPushes(t, "a frame behind one that has not come whole",
		push{[]byte{4, 1, 2}, nil, api.OK, 3, false},
		push{[]byte{3, 4, 2, 5, 6, 1}, [][]byte{{1, 2, 3, 4}, {5, 6}}, api.OK, 1, false},
		push{[]byte{7, 0}, [][]byte{{7}, {}}, api.OK, 0, false})
}

func TestP4_2NumbersThatAreNone(t *testing.T) {
	tail := []byte{1, 5, 0}
	none := map[string][]byte{
		"a last byte of 0":              {128, 0},
		"a last byte of 0, not of 0":    {129, 0},
		"a last byte of 0, the third":   {129, 160, 0},
		"a last byte of 0, the ninth":   joined(bytes.Repeat([]byte{129}, 8), []byte{0}),
		"nine digits of 0, more follow": bytes.Repeat([]byte{128}, 9),
		"nine digits, more follow":      bytes.Repeat([]byte{255}, 9),
		"MaxInt + 1":                    joined(bytes.Repeat([]byte{128}, 9), []byte{1}),
		"2^64 - 1":                      joined(bytes.Repeat([]byte{255}, 9), []byte{1}),
		"2^70":                          joined(bytes.Repeat([]byte{128}, 10), []byte{1}),
		"no end":                        bytes.Repeat([]byte{255}, 5000),
	}
	for name, b := range none {
		for _, behind := range [][]byte{nil, tail} {
			checkPushes(t, name, push{joined(b, behind), nil, api.ErrForm, 0, true})
			checkPushes(t, name+", behind loads",
				push{joined([]byte{1, 9, 0}, b, behind), [][]byte{{9}, {}}, api.ErrForm, 0, true})
			checkPushes(t, name+", behind a load that began to come",
				push{[]byte{0, 2, 9}, [][]byte{{}}, api.OK, 2, false},
				push{joined([]byte{8}, b, behind), [][]byte{{9, 8}}, api.ErrForm, 0, true})
		}
	}
}

func TestP4_2NumbersAboveMaxFrame(t *testing.T) {
	for _, n := range []int{4097, 4098, 8192, 16383, 16384, 1 << 21, 1 << 31, 1 << 56, api.MaxInt - 1, api.MaxInt} {
		b := pack.Uint(nil, n)
		for _, behind := range [][]byte{nil, {0}, filled(5000)} {
			checkPushes(t, "alone", push{joined(b, behind), nil, api.ErrLong, 0, true})
			checkPushes(t, "behind loads",
				push{joined([]byte{1, 9, 0}, b, behind), [][]byte{{9}, {}}, api.ErrLong, 0, true})
			checkPushes(t, "behind a load that began to come",
				push{[]byte{0, 2, 9}, [][]byte{{}}, api.OK, 2, false},
				push{joined([]byte{8}, b, behind), [][]byte{{9, 8}}, api.ErrLong, 0, true})
		}
		pushes := []push{}
		for i := range len(b) - 1 {
			pushes = append(pushes, push{b[i : i+1], nil, api.OK, i + 1, false})
		}
		checkPushes(t, "byte by byte", append(pushes, push{b[len(b)-1:], nil, api.ErrLong, 0, true})...)
	}
}

// TestP4_2NumbersThatAreNoneAtOnce: up to eight digits behind which another
// follows may become a number still, that nine of them may not.
func TestP4_2NumbersThatAreNoneAtOnce(t *testing.T) {
	for _, digit := range []byte{128, 129, 200, 255} {
		for count := 1; count <= 8; count++ {
			var pushes []push
			for i := range count {
				pushes = append(pushes, push{[]byte{digit}, nil, api.OK, i + 1, false})
			}
			checkPushes(t, "it waits", pushes...)
			checkPushes(t, "it waits, in one part", push{bytes.Repeat([]byte{digit}, count), nil, api.OK, count, false})
			checkPushes(t, "ended by 0", append(pushes, push{[]byte{0}, nil, api.ErrForm, 0, true})...)
			if count > 1 {
				checkPushes(t, "ended by 1", append(pushes, push{[]byte{1}, nil, api.ErrLong, 0, true})...)
				checkPushes(t, "ended by 127", append(pushes, push{[]byte{127}, nil, api.ErrLong, 0, true})...)
			}
			if count == 8 {
				checkPushes(t, "the ninth", append(pushes, push{[]byte{digit}, nil, api.ErrForm, 0, true})...)
			}
		}
	}
	checkPushes(t, "the ninth, behind a load",
		push{joined([]byte{1, 9}, bytes.Repeat([]byte{128}, 8)), [][]byte{{9}}, api.OK, 8, false},
		push{[]byte{128}, nil, api.ErrForm, 0, true})
}

func TestP4_2DeadFeeds(t *testing.T) {
	great := wrapped(t, filled(api.MaxFrame))
	for _, end := range []push{
		{[]byte{128, 0}, nil, api.ErrForm, 0, true},
		{[]byte{1, 7, 129, 0, 1}, [][]byte{{7}}, api.ErrForm, 0, true},
		{[]byte{129, 32}, nil, api.ErrLong, 0, true},
		{[]byte{0, 129, 32, 0}, [][]byte{{}}, api.ErrLong, 0, true},
	} {
		over := func(b []byte) push { return push{b, nil, api.ErrOver, 0, true} }
		checkPushes(t, "a dead feed", end, over(nil), over([]byte{}), over([]byte{0}), over([]byte{2, 97, 98}),
			over([]byte{1}), over([]byte{128, 0}), over([]byte{129, 32}), over(great), over(nil))
	}
}

// plainNumber tells of the first bytes of b whether a number is written there
// (and then which, and in how many bytes), or whether bytes behind them could
// still make it one.
func plainNumber(b []byte) (n *big.Int, size int, may bool) {
	n = new(big.Int)
	for i, digit := range b {
		low := big.NewInt(int64(digit % 128))
		n.Add(n, low.Lsh(low, uint(7*i)))
		if digit < 128 {
			if digit == 0 && i > 0 || !n.IsInt64() {
				return n, 0, false
			}
			return n, i + 1, true
		}
	}
	// The least that may come of it has one digit of 1 more.
	least := new(big.Int).Lsh(big.NewInt(1), uint(7*len(b)))
	return n, 0, least.Add(least, n).IsInt64()
}

// told is all that was told of a feed.
type told struct {
	loads [][]byte
	err   api.Errno
	waits int
	dead  bool
}

func (a told) same(b told) bool {
	return sameLoads(a.loads, b.loads) && a.err == b.err && a.waits == b.waits && a.dead == b.dead
}

// plainFeed tells what comes of all bytes, as the document tells it.
func plainFeed(b []byte) told {
	var out told
	for {
		n, size, may := plainNumber(b)
		switch {
		case !may:
			out.err, out.dead = api.ErrForm, true
			return out
		case size > 0 && n.Cmp(big.NewInt(api.MaxFrame)) > 0:
			out.err, out.dead = api.ErrLong, true
			return out
		case size == 0 || size+int(n.Int64()) > len(b):
			out.waits = len(b)
			return out
		}
		end := size + int(n.Int64())
		out.loads = append(out.loads, bytes.Clone(b[size:end]))
		b = b[end:]
	}
}

// someStream draws frames, most of them small, and now and then bytes that
// are none.
func someStream(t *testing.T, source *rand.Rand) []byte {
	t.Helper()
	var b []byte
	for range source.Intn(8) {
		switch source.Intn(14) {
		case 0:
			b = append(b, wrapped(t, filled(api.MaxFrame-source.Intn(3)))...)
		case 1:
			b = append(b, wrapped(t, filled(120+source.Intn(20)))...)
		case 2:
			digits := make([]byte, source.Intn(12))
			for i := range digits {
				digits[i] = 128 + byte(source.Intn(3))
			}
			b = append(append(b, digits...), byte(source.Intn(4)))
		case 3:
			b = append(b, pack.Uint(nil, api.MaxFrame+source.Intn(3)-1)...)
		default:
			b = append(b, wrapped(t, filled(source.Intn(5)))...)
		}
	}
	return b[:len(b)-source.Intn(min(len(b), 3)+1)]
}

// pushAll pushes the parts and holds what is told behind each of them against
// the plain telling of all bytes up to it.
func pushAll(t *testing.T, parts ...[]byte) {
	t.Helper()
	x := frame.New()
	var all []byte
	var loads [][]byte
	for i, part := range parts {
		wasDead := x.Dead()
		got, err := x.Push(part)
		if wasDead {
			if len(got) != 0 || err != api.ErrOver || x.Waits() != 0 || !x.Dead() {
				t.Fatalf("push %d to a dead feed: %v, error %d, %d wait, dead is %t", i, got, err, x.Waits(), x.Dead())
			}
			continue
		}
		all = append(all, part...)
		loads = append(loads, got...)
		now := told{loads, err, x.Waits(), x.Dead()}
		if want := plainFeed(all); !now.same(want) {
			t.Fatalf("%v: behind part %d %v, not %v", all, i, now, want)
		}
	}
}

// single is the bytes one by one.
func single(b []byte) [][]byte {
	var parts [][]byte
	for i := range b {
		parts = append(parts, b[i:i+1])
	}
	return parts
}

// someParts cuts the bytes anywhere, into parts of no bytes too.
func someParts(source *rand.Rand, b []byte) [][]byte {
	var parts [][]byte
	most := 1 + source.Intn(len(b)+1)
	for len(b) > 0 {
		size := source.Intn(min(most, len(b)) + 1)
		parts = append(parts, b[:size])
		b = b[size:]
	}
	return append(parts, b)
}

func TestP4_2BytesAreTakenAsTold(t *testing.T) {
	for first := range 256 {
		pushAll(t, []byte{byte(first)})
		for second := range 256 {
			b := []byte{byte(first), byte(second)}
			pushAll(t, b)
			pushAll(t, b[:1], b[1:])
			pushAll(t, []byte{128, byte(first), byte(second)})
		}
	}
	source := rand.New(rand.NewSource(1))
	for range 20000 {
		b := make([]byte, source.Intn(24))
		for i := range b {
			switch source.Intn(3) {
			case 0:
				b[i] = byte(source.Intn(256))
			case 1:
				b[i] = byte(source.Intn(4))
			default:
				b[i] = 128 + byte(source.Intn(2))
			}
		}
		pushAll(t, b)
		pushAll(t, single(b)...)
		pushAll(t, someParts(source, b)...)
	}
}

func TestP4_3WaitsAndDead(t *testing.T) {
	stream := joined([]byte{3, 1, 2, 3, 0, 128, 1}, filled(128), []byte{2, 7, 7, 130, 128, 0, 1})
	x := frame.New()
	for i := range stream {
		x.Push(stream[i : i+1])
		want := plainFeed(stream[:i+1])
		for range 2 {
			if x.Waits() != want.waits || x.Dead() != want.dead {
				t.Errorf("behind %d bytes: %d wait, dead is %t, not %d, %t", i+1, x.Waits(), x.Dead(), want.waits, want.dead)
			}
		}
	}
	if !x.Dead() {
		t.Errorf("the feed lives")
	}
}

func TestP4_3FeedsAreApart(t *testing.T) {
	x, other := frame.New(), frame.New()
	x.Push([]byte{5, 1})
	other.Push([]byte{128, 0})
	if x.Waits() != 2 || x.Dead() || other.Waits() != 0 || !other.Dead() {
		t.Errorf("two feeds: %d, %t and %d, %t", x.Waits(), x.Dead(), other.Waits(), other.Dead())
	}
	if loads, err := x.Push([]byte{2, 3, 4, 5}); !sameLoads(loads, [][]byte{{1, 2, 3, 4, 5}}) || err != api.OK {
		t.Errorf("a feed beside one that is dead: %v, error %d", loads, err)
	}
}

// guarded answers bytes with spare room behind them, and a check that neither
// has changed.
func guarded(t *testing.T, b []byte) ([]byte, func(string)) {
	whole := joined(b, bytes.Repeat([]byte{77}, 64))
	before := bytes.Clone(whole)
	return whole[:len(b)], func(call string) {
		t.Helper()
		if !bytes.Equal(whole, before) {
			t.Errorf("%s changed what was handed in", call)
		}
	}
}

// spoil writes over all that a list has, its spare room too.
func spoil(b []byte) {
	b = b[:cap(b)]
	for i := range b {
		b[i] = 99
	}
}

// spoilAll writes over loads, and over the list of them.
func spoilAll(loads [][]byte) {
	for _, load := range loads {
		spoil(load)
	}
	loads = loads[:cap(loads)]
	for i := range loads {
		loads[i] = []byte{99}
	}
}

func TestP4_4ArgumentsAreNotChanged(t *testing.T) {
	for _, load := range [][]byte{{}, {1, 2, 3}, filled(api.MaxFrame), filled(api.MaxFrame + 1)} {
		b, check := guarded(t, load)
		frame.Wrap(b)
		check("Wrap")
	}
	x := frame.New()
	for _, part := range [][]byte{{}, {3}, {1, 2}, {3, 2, 8}, {}, {9, 0, 1}, {4, 128}, {0, 5, 6}, {1, 2}, {}} {
		b, check := guarded(t, part)
		x.Push(b)
		check("Push")
	}
	if !x.Dead() {
		t.Errorf("the feed lives")
	}
}

func TestP4_4FramesAreNewMemory(t *testing.T) {
	for _, size := range []int{0, 1, 3, 127, 128, api.MaxFrame} {
		load, check := guarded(t, filled(size))
		first, _ := frame.Wrap(load)
		second, _ := frame.Wrap(load)
		want := bytes.Clone(second)
		spoil(first)
		check("a frame that was changed")
		if !bytes.Equal(second, want) {
			t.Errorf("a load of %d bytes: its frame turned with another one", size)
		}
		spoil(load)
		if !bytes.Equal(second, want) {
			t.Errorf("a load of %d bytes: its frame turned with it", size)
		}
	}
}

func TestP4_4PushedBytesAreNotKept(t *testing.T) {
	stream := wrapped(t, []byte("ab"), nil, []byte("cde"), filled(300), []byte("f"), filled(api.MaxFrame))
	want := plainFeed(stream).loads
	for cut := range len(stream) {
		x := frame.New()
		var loads [][]byte
		for _, part := range [][]byte{stream[:cut], stream[cut:]} {
			b, _ := guarded(t, part)
			got, _ := x.Push(b)
			loads = append(loads, got...)
			spoil(b)
		}
		if !sameLoads(loads, want) {
			t.Fatalf("cut at %d: the loads turned with the bytes that were pushed", cut)
		}
	}
}

// TestP4_4OneRoomForAllParts hands in all parts in one piece of memory, as one
// does that reads a stream.
func TestP4_4OneRoomForAllParts(t *testing.T) {
	stream := wrapped(t, []byte("ab"), nil, []byte("cde"), filled(300), []byte("f"))
	x := frame.New()
	room := make([]byte, 7)
	var loads [][]byte
	for rest := stream; len(rest) > 0; {
		size := copy(room, rest)
		got, _ := x.Push(room[:size])
		loads = append(loads, got...)
		rest = rest[size:]
	}
	if want := plainFeed(stream).loads; !sameLoads(loads, want) {
		t.Errorf("%v, not %v", loads, want)
	}
}

func TestP4_4LoadsAreNewMemory(t *testing.T) {
	stream := wrapped(t, []byte("ab"), nil, []byte("cde"), filled(20), []byte("f"), []byte("gh"), filled(9))
	want := plainFeed(stream).loads
	for cut := range len(stream) {
		for next := cut; next < len(stream); next++ {
			x := frame.New()
			done := 0
			for _, part := range [][]byte{stream[:cut], stream[cut:next], stream[next:]} {
				b, check := guarded(t, part)
				loads, _ := x.Push(b)
				for i, load := range loads {
					if !bytes.Equal(load, want[done+i]) {
						t.Fatalf("cut at %d and %d: load %d is %v, not %v", cut, next, done+i, load, want[done+i])
					}
					spoil(load)
				}
				done += len(loads)
				spoilAll(loads)
				check("a load that was changed")
			}
			if done != len(want) {
				t.Fatalf("cut at %d and %d: %d loads, not %d", cut, next, done, len(want))
			}
		}
	}
}

func TestP4_4LoadsBesideAnErrorAreNewMemory(t *testing.T) {
	b, check := guarded(t, []byte{2, 97, 98, 1, 99, 129, 32, 4})
	loads, err := frame.New().Push(b)
	if err != api.ErrLong || len(loads) != 2 {
		t.Fatalf("%v, error %d", loads, err)
	}
	spoil(loads[0])
	check("a load that was changed")
	if !bytes.Equal(loads[1], []byte{99}) {
		t.Errorf("the second load turned with the first: %v", loads[1])
	}
	spoil(b)
	loads, _ = frame.New().Push([]byte{2, 97, 98, 1, 99, 128, 0})
	if !sameLoads(loads, [][]byte{{97, 98}, {99}}) {
		t.Errorf("%v", loads)
	}
}

func TestP4_4LaterPushesTurnNoLoads(t *testing.T) {
	stream := joined(wrapped(t, filled(5), nil, filled(2), filled(40), filled(3)), []byte{1, 6, 128, 0})
	x := frame.New()
	var all, copies [][]byte
	for _, part := range single(stream) {
		loads, _ := x.Push(part)
		for _, load := range loads {
			all, copies = append(all, load), append(copies, bytes.Clone(load))
		}
	}
	if !sameLoads(all, copies) || len(all) != 6 {
		t.Errorf("%v, not %v", all, copies)
	}
}

func TestP4_5TwoPartsCutAnywhere(t *testing.T) {
	for _, end := range [][]byte{nil, {2, 5}, {128}, {128, 0}, {128, 0, 1, 5}, {129, 32}, {129, 32, 7}, bytes.Repeat([]byte{128}, 10)} {
		stream := joined(wrapped(t, []byte("ab"), nil, filled(130), []byte("c")), end)
		pushAll(t, stream)
		pushAll(t, single(stream)...)
		for cut := range len(stream) + 1 {
			pushAll(t, stream[:cut], stream[cut:])
			pushAll(t, stream[:cut], nil, stream[cut:], nil)
		}
	}
}

// outcome is what came out of a stream in all: how many bytes wait is told at
// its end alone, the error where it came.
func outcome(parts ...[]byte) told {
	x := frame.New()
	var out told
	for _, part := range parts {
		loads, err := x.Push(part)
		out.loads = append(out.loads, loads...)
		if out.err == api.OK {
			out.err = err
		}
	}
	out.waits, out.dead = x.Waits(), x.Dead()
	return out
}

func TestP4_5PartsDoNotMatter(t *testing.T) {
	source := rand.New(rand.NewSource(2))
	ends := map[api.Errno]int{}
	for range 1500 {
		stream := someStream(t, source)
		whole := outcome(stream)
		ends[whole.err]++
		if want := plainFeed(stream); !whole.same(want) {
			t.Fatalf("%v at once: %v, not %v", stream, whole, want)
		}
		if got := outcome(single(stream)...); !got.same(whole) {
			t.Fatalf("%v one by one: %v, at once %v", stream, got, whole)
		}
		for range 4 {
			parts := someParts(source, stream)
			if got := outcome(parts...); !got.same(whole) {
				t.Fatalf("%v: %v, at once %v", parts, got, whole)
			}
		}
	}
	if ends[api.OK] < 100 || ends[api.ErrForm] < 100 || ends[api.ErrLong] < 100 {
		t.Errorf("the streams end too much alike: %v", ends)
	}
}

func TestP4_5WrappedLoadsComeOut(t *testing.T) {
	var loads [][]byte
	for size := 0; size <= api.MaxFrame; size += 1 + size/9 {
		loads = append(loads, filled(size))
	}
	loads = append(loads, filled(api.MaxFrame))
	stream := wrapped(t, loads...)
	for _, parts := range [][][]byte{{stream}, single(stream)} {
		if got := outcome(parts...); !got.same(told{loads: loads}) {
			t.Errorf("in %d parts: %d loads, error %d, %d wait", len(parts), len(got.loads), got.err, got.waits)
		}
	}
}

func TestP4_6WhatWaits(t *testing.T) {
	most := 0
	source := rand.New(rand.NewSource(3))
	streams := [][]byte{
		bytes.Repeat([]byte{128}, 6000), bytes.Repeat([]byte{255}, 6000), filled(20000),
		wrapped(t, filled(api.MaxFrame), filled(api.MaxFrame)), joined([]byte{255, 31}, bytes.Repeat([]byte{255}, 9000)),
	}
	for range 300 {
		streams = append(streams, someStream(t, source))
	}
	for _, stream := range streams {
		for _, parts := range [][][]byte{{stream}, single(stream), someParts(source, stream)} {
			x := frame.New()
			for _, part := range parts {
				x.Push(part)
				most = max(most, x.Waits())
				if x.Waits() < 0 || x.Waits() > api.MaxFrame+8 {
					t.Fatalf("%d bytes wait", x.Waits())
				}
			}
		}
	}
	if most != api.MaxFrame+1 {
		t.Errorf("at most %d bytes waited, not all of a frame but its last one", most)
	}
}
