package command_test

import (
	"bytes"
	"encoding/binary"
	"fmt"
	"math/rand"
	"regexp"
	"slices"
	"strings"
	"testing"

	"barrow/api"
	"barrow/command"
	"barrow/frame"
	"barrow/pack"
)

// The Dos, by what their commands have beside them.
var (
	pairs = []int{api.CmdMove, api.CmdCast, api.CmdRoll, api.CmdGroup}
	bare  = []int{api.CmdStop, api.CmdLeave}
)

// letters are the bytes that names may have, written out.
const letters = "abcdefghijklmnopqrstuvwxyzABCDEFGHIJKLMNOPQRSTUVWXYZ0123456789-"

// plainNames are the names, told in another way.
var plainNames = regexp.MustCompile(`\A[a-zA-Z0-9-]{1,24}\z`)

// plainRight tells of a command whether it is right by what it would be made
// of alone.
func plainRight(c api.Command) bool {
	switch {
	case c.Do == api.CmdHello:
		return c == api.Command{Do: c.Do, Text: c.Text} && plainNames.MatchString(c.Text)
	case slices.Contains(pairs, c.Do):
		return c == api.Command{Do: c.Do, A: c.A, B: c.B}
	case slices.Contains(bare, c.Do):
		return c == api.Command{Do: c.Do}
	}
	return false
}

// plainLoad is the load of a right command; the library writes the numbers.
func plainLoad(c api.Command) []byte {
	b := append([]byte{byte(c.Do)}, c.Text...)
	if slices.Contains(pairs, c.Do) {
		b = binary.AppendVarint(b, int64(c.A))
		b = binary.AppendVarint(b, int64(c.B))
	}
	return b
}

// plainNumber is the number that just these bytes are, as the library writes
// it.
func plainNumber(b []byte) (int, bool) {
	n, size := binary.Varint(b)
	return int(n), size == len(b) && bytes.Equal(binary.AppendVarint(nil, n), b)
}

// plainCommand looks for the right command whose load that is: of a pair of
// numbers it tries each place at which the second may begin.
func plainCommand(load []byte) (api.Command, bool) {
	if len(load) == 0 {
		return api.Command{}, false
	}
	do, rest := int(load[0]), load[1:]
	switch {
	case do == api.CmdHello && plainNames.Match(rest):
		return api.Command{Do: do, Text: string(rest)}, true
	case slices.Contains(bare, do) && len(rest) == 0:
		return api.Command{Do: do}, true
	case slices.Contains(pairs, do):
		for i := range rest {
			a, first := plainNumber(rest[:i])
			b, second := plainNumber(rest[i:])
			if first && second {
				return api.Command{Do: do, A: a, B: b}, true
			}
		}
	}
	return api.Command{}, false
}

// numbers are the ends, nought, and both sides of each place at which a
// written number gets a byte longer.
func numbers() []int {
	list := []int{0, 1, -1, 3, -2, 300, api.MinInt, api.MinInt + 1, api.MaxInt - 1, api.MaxInt}
	for shift := 6; shift < 63; shift += 7 {
		n := 1 << shift
		list = append(list, n-1, n, -n, -n-1)
	}
	return list
}

// dos are all from below the first Do to beyond the last, the ends of
// numbers, and those that are a Do in their lowest byte alone.
func dos() []int {
	list := []int{api.MinInt, api.MinInt + 1, api.MinInt + 2, -api.CmdMove, -256 + api.CmdHello, -256 + api.CmdStop, api.MaxInt - 1, api.MaxInt}
	for do := -3; do < 300; do++ {
		list = append(list, do)
	}
	for _, high := range []int{1 << 8, 1 << 16, 1 << 31, 1 << 32, 1 << 62, api.MinInt} {
		for do := range 9 {
			list = append(list, high+do)
		}
	}
	return list
}

// names are some of all lengths, and of all that names may have.
func names() []string {
	list := []string{"ab", "aB", "a-b", "-", "--", "0", "9", "Z", "a", "A", "007", "-1"}
	for size := range api.MaxName {
		list = append(list, letters[size:2*size+1], letters[len(letters)-size-1:])
	}
	return list
}

// noNames are texts that are none.
func noNames() []string {
	long := strings.Repeat("x", api.MaxName+1)
	return []string{
		"", " ", "a b", " a", "a ", "a_b", "a.b", "\x00", "ab\x00", "\xff", "\u00e9", "ab\u00df", "\u2010", "a\n", "\n",
		long, long[1:] + " ", long + long, strings.Repeat("\u00e9", 12), strings.Repeat("-", 1000),
	}
}

// rightOnes are right commands of each Do.
func rightOnes() []api.Command {
	var list []api.Command
	for _, name := range names() {
		list = append(list, api.Command{Do: api.CmdHello, Text: name})
	}
	for _, do := range bare {
		list = append(list, api.Command{Do: do})
	}
	for _, do := range pairs {
		for _, a := range numbers() {
			for _, b := range numbers() {
				list = append(list, api.Command{Do: do, A: a, B: b})
			}
		}
	}
	return list
}

// anyOnes are commands of all sorts, right or not: each Do with each field, or
// some, at other than zero.
func anyOnes() []api.Command {
	var list []api.Command
	for _, do := range dos() {
		for _, text := range append(noNames(), "ab", "-", letters[:api.MaxName]) {
			list = append(list, api.Command{Do: do, Text: text}, api.Command{Do: do, Text: text, A: 1}, api.Command{Do: do, Text: text, B: 1})
		}
		for _, n := range numbers() {
			list = append(list, api.Command{Do: do, A: n}, api.Command{Do: do, B: n}, api.Command{Do: do, A: n, B: -n})
			list = append(list, api.Command{Do: do, Text: "ab", A: n}, api.Command{Do: do, Text: "ab", B: n})
		}
	}
	return list
}

// someBytes are drawn so that loads come often, and numbers of many digits.
func someBytes(source *rand.Rand, count int) []byte {
	b := make([]byte, count)
	for i := range b {
		switch source.Intn(5) {
		case 0:
			b[i] = byte(source.Intn(256))
		case 1:
			b[i] = letters[source.Intn(len(letters))]
		case 2:
			b[i] = byte(source.Intn(4))
		default:
			b[i] = 128 + byte(source.Intn(128))
		}
	}
	if count > 0 {
		b[0] = byte(source.Intn(9))
	}
	return b
}

func joined(parts ...[]byte) []byte {
	return bytes.Join(parts, nil)
}

// refused tells where a load isn't, with a zero command beside it.
func refused(t *testing.T, name string, load []byte) {
	t.Helper()
	if c, err := command.Decode(load); c != (api.Command{}) || err != api.ErrForm {
		t.Errorf("%s: %v: %+v, %d, not ErrForm", name, load, c, err)
	}
}

// checkLoad holds Decode against the plain telling.
func checkLoad(t *testing.T, load []byte) {
	t.Helper()
	want, ok := plainCommand(load)
	wantErr := api.ErrForm
	if ok {
		wantErr = api.OK
	}
	if c, err := command.Decode(load); c != want || err != wantErr {
		t.Fatalf("%v: %+v, %d, not %+v, %d", load, c, err, want, wantErr)
	}
}

func TestP11_1NamesHaveSomeBytes(t *testing.T) {
	cases := []struct {
		s    string
		want bool
	}{
		{"", false}, {"a", true}, {"-", true}, {"7", true}, {"Q", true}, {"ab", true}, {"Ab-9", true}, {"-a", true}, {"a-", true}, {"9a", true},
		{strings.Repeat("a", api.MaxName-1), true},
		{strings.Repeat("a", api.MaxName), true},
		{strings.Repeat("a", api.MaxName+1), false},
		{strings.Repeat("-", 1<<20), false},
		{strings.Repeat("a", 256+3), false},
		{"a b", false}, {"ab ", false}, {" ab", false}, {"a\x00b", false}, {"\u00e9", false}, {"a\u00e9", false}, {"\u0661", false}, {"\u212a", false},
	}
	for _, c := range cases {
		if got := command.Name(c.s); got != c.want {
			t.Errorf("Name(%q): %v, not %v", c.s, got, c.want)
		}
	}
	for _, s := range noNames() {
		if command.Name(s) {
			t.Errorf("Name(%q): it is none", s)
		}
	}
}

func TestP11_1NamesAreOfSomeBytes(t *testing.T) {
	for b := range 256 {
		one, want := string([]byte{byte(b)}), strings.IndexByte(letters, byte(b)) >= 0
		for _, s := range []string{one, "x" + one, one + "x", "x" + one + "x", letters[:23] + one, one + letters[:23], "-" + one + "-"} {
			if command.Name(s) != want {
				t.Errorf("Name(%q): %v, not %v", s, !want, want)
			}
		}
		for _, s := range []string{letters[:24] + one, one + letters[:24]} {
			if command.Name(s) {
				t.Errorf("Name(%q): it has %d bytes", s, len(s))
			}
		}
	}
}

func TestP11_1RightAndEncodeByCases(t *testing.T) {
	long := letters[:api.MaxName]
	cases := []struct {
		c    api.Command
		load []byte
	}{
		{api.Command{Do: api.CmdMove, A: 3, B: -1}, []byte{2, 6, 1}},
		{api.Command{Do: api.CmdHello, Text: "ab"}, []byte{1, 97, 98}},
		{api.Command{Do: api.CmdStop}, []byte{4}},
		{api.Command{Do: api.CmdLeave}, []byte{7}},
		{api.Command{Do: api.CmdHello, Text: "-"}, []byte{1, 45}},
		{api.Command{Do: api.CmdHello, Text: long}, append([]byte{1}, long...)},
		{api.Command{Do: api.CmdHello, Text: long + "-"}, nil},
		{api.Command{Do: api.CmdHello}, nil},
		{api.Command{Do: api.CmdHello, Text: "a b"}, nil},
		{api.Command{Do: api.CmdHello, Text: "ab", A: 1}, nil},
		{api.Command{Do: api.CmdHello, Text: "ab", B: -1}, nil},
		{api.Command{Do: api.CmdMove}, []byte{2, 0, 0}},
		{api.Command{Do: api.CmdMove, A: 3, B: -1, Text: "a"}, nil},
		{api.Command{Do: api.CmdCast, A: 64, B: -64}, []byte{3, 128, 1, 127}},
		{api.Command{Do: api.CmdCast, A: 1, B: 2, Text: " "}, nil},
		{api.Command{Do: api.CmdRoll, A: 63, B: -65}, []byte{5, 126, 129, 1}},
		{api.Command{Do: api.CmdRoll, Text: "a"}, nil},
		{api.Command{Do: api.CmdGroup, A: 1, B: 0}, []byte{6, 2, 0}},
		{api.Command{Do: api.CmdGroup, A: 1, B: 0, Text: "\x00"}, nil},
		{
			api.Command{Do: api.CmdGroup, A: api.MaxInt, B: api.MinInt},
			joined([]byte{6, 254}, bytes.Repeat([]byte{255}, 8), []byte{1}, bytes.Repeat([]byte{255}, 9), []byte{1}),
		},
		{api.Command{Do: api.CmdStop, A: 1}, nil},
		{api.Command{Do: api.CmdStop, B: 1}, nil},
		{api.Command{Do: api.CmdStop, A: 1, B: -1}, nil},
		{api.Command{Do: api.CmdStop, Text: "a"}, nil},
		{api.Command{Do: api.CmdLeave, A: api.MinInt}, nil},
		{api.Command{Do: api.CmdLeave, B: api.MaxInt}, nil},
		{api.Command{Do: api.CmdLeave, Text: "a"}, nil},
		{api.Command{}, nil},
		{api.Command{Text: "ab"}, nil},
		{api.Command{A: 1, B: 2}, nil},
		{api.Command{Do: 8}, nil},
		{api.Command{Do: 8, Text: "ab"}, nil},
		{api.Command{Do: -1}, nil},
		{api.Command{Do: 256 + api.CmdStop}, nil},
		{api.Command{Do: api.MaxInt}, nil},
		{api.Command{Do: api.MinInt}, nil},
	}
	for _, c := range cases {
		err := api.OK
		if c.load == nil {
			err = api.ErrArg
		}
		if command.Right(c.c) != (err == api.OK) {
			t.Errorf("Right(%+v): %v", c.c, err != api.OK)
		}
		if load, got := command.Encode(c.c); !bytes.Equal(load, c.load) || got != err {
			t.Errorf("Encode(%+v): %v, %d, not %v, %d", c.c, load, got, c.load, err)
		}
	}
}

func TestP11_1RightAndEncodeAsTold(t *testing.T) {
	list := append(anyOnes(), rightOnes()...)
	for _, text := range append(names(), noNames()...) {
		list = append(list, api.Command{Do: api.CmdHello, Text: text}, api.Command{Do: api.CmdStop, Text: text}, api.Command{Do: api.CmdRoll, Text: text})
	}
	for _, c := range list {
		want := plainRight(c)
		if command.Right(c) != want {
			t.Fatalf("Right(%+v): %v, not %v", c, !want, want)
		}
		load, err := command.Encode(c)
		switch {
		case want && (err != api.OK || !bytes.Equal(load, plainLoad(c))):
			t.Fatalf("Encode(%+v): %v, %d, not %v", c, load, err, plainLoad(c))
		case !want && (err != api.ErrArg || load != nil):
			t.Fatalf("Encode(%+v): %v, %d, not ErrArg", c, load, err)
		}
	}
}

func TestP11_1NumbersAreWrittenByPack(t *testing.T) {
	for _, do := range pairs {
		for _, a := range numbers() {
			for _, b := range numbers() {
				load, err := command.Encode(api.Command{Do: do, A: a, B: b})
				if want := pack.Int(pack.Int([]byte{byte(do)}, a), b); !bytes.Equal(load, want) || err != api.OK {
					t.Fatalf("%d %d %d: %v, %d, not %v", do, a, b, load, err, want)
				}
			}
		}
	}
}

func TestP11_2Examples(t *testing.T) {
	cases := []struct {
		load []byte
		want api.Command
	}{
		{[]byte{2, 6, 1}, api.Command{Do: api.CmdMove, A: 3, B: -1}},
		{[]byte{1, 97, 98}, api.Command{Do: api.CmdHello, Text: "ab"}},
		{[]byte{4}, api.Command{Do: api.CmdStop}},
		{[]byte{7}, api.Command{Do: api.CmdLeave}},
		{[]byte{3, 0, 0}, api.Command{Do: api.CmdCast}},
		{[]byte{5, 128, 1, 127}, api.Command{Do: api.CmdRoll, A: 64, B: -64}},
		{[]byte{6, 126, 129, 1}, api.Command{Do: api.CmdGroup, A: 63, B: -65}},
		{append([]byte{1}, letters[39:]...), api.Command{Do: api.CmdHello, Text: letters[39:]}},
	}
	for _, c := range cases {
		if got, err := command.Decode(c.load); got != c.want || err != api.OK {
			t.Errorf("%v: %+v, %d, not %+v", c.load, got, err, c.want)
		}
	}
}

func TestP11_2NoLoads(t *testing.T) {
	refused(t, "nil", nil)
	refused(t, "empty", []byte{})
	for first := range 256 {
		if first >= api.CmdHello && first <= api.CmdLeave {
			continue
		}
		for _, rest := range [][]byte{nil, {0}, {6, 1}, {97, 98}, {6, 1, 0}} {
			refused(t, "no Do", append([]byte{byte(first)}, rest...))
		}
	}
	for _, do := range bare {
		for b := range 256 {
			refused(t, "goes on", []byte{byte(do), byte(b)})
		}
		refused(t, "numbers", []byte{byte(do), 0, 0})
		refused(t, "a name", []byte{byte(do), 'a', 'b'})
	}
	refused(t, "no text", []byte{api.CmdHello})
	for _, s := range noNames() {
		refused(t, "no name", append([]byte{api.CmdHello}, s...))
	}
	for b := range 256 {
		if strings.IndexByte(letters, byte(b)) < 0 {
			refused(t, "no byte of names", []byte{api.CmdHello, byte(b)})
			refused(t, "the first is no byte of names", []byte{api.CmdHello, byte(b), 'a'})
			refused(t, "the last is no byte of names", []byte{api.CmdHello, 'a', byte(b)})
		}
	}
}

func TestP11_2NoPairs(t *testing.T) {
	tail := bytes.Repeat([]byte{255}, 8)
	cases := []struct {
		name string
		rest []byte
	}{
		{"ends ahead of A", nil},
		{"ends within A", []byte{128}},
		{"ends within A, with nine", bytes.Repeat([]byte{129}, 9)},
		{"ends ahead of B", []byte{6}},
		{"ends ahead of B, A is nought", []byte{0}},
		{"ends ahead of B, A is long", joined([]byte{254}, tail, []byte{1})},
		{"ends within B", []byte{6, 129}},
		{"ends within B, with nine", joined([]byte{6}, bytes.Repeat([]byte{129}, 9))},
		{"goes on", []byte{6, 1, 0}},
		{"goes on with another one", []byte{6, 1, 2, 6, 1}},
		{"goes on with 128 more", []byte{6, 1, 128}},
		{"A's last byte is nought", []byte{134, 0, 1}},
		{"A is nought in two bytes", []byte{128, 0, 1}},
		{"B's last byte is nought", []byte{6, 129, 0}},
		{"B is nought in two bytes", []byte{6, 128, 0}},
		{"A's last byte of three is nought", []byte{134, 129, 0, 1}},
		{"A is of eleven bytes", joined(bytes.Repeat([]byte{129}, 10), []byte{1, 6})},
		{"A is nought in eleven bytes", joined(bytes.Repeat([]byte{128}, 10), []byte{0, 6})},
		{"B is of eleven bytes", joined([]byte{6}, bytes.Repeat([]byte{129}, 10), []byte{1})},
		{"A is 2^64", joined(bytes.Repeat([]byte{128}, 9), []byte{2, 6})},
		{"A is 2^70 - 1", joined(bytes.Repeat([]byte{255}, 9), []byte{127, 6})},
		{"B is 2^64", joined([]byte{6}, bytes.Repeat([]byte{128}, 9), []byte{2})},
		{"B is 2^64 + 1", joined([]byte{6, 129}, bytes.Repeat([]byte{128}, 8), []byte{2})},
		{"B is 2^70 - 1", joined([]byte{6}, bytes.Repeat([]byte{255}, 9), []byte{127})},
		{"A never ends", bytes.Repeat([]byte{200}, 1000)},
		{"many noughts", make([]byte, 1000)},
	}
	for _, do := range pairs {
		for _, c := range cases {
			refused(t, c.name, append([]byte{byte(do)}, c.rest...))
		}
	}
}

func TestP11_2DecodeAsTold(t *testing.T) {
	for first := range 10 {
		checkLoad(t, []byte{byte(first)})
		for second := range 256 {
			checkLoad(t, []byte{byte(first), byte(second)})
			for third := range 256 {
				checkLoad(t, []byte{byte(first), byte(second), byte(third)})
				checkLoad(t, []byte{byte(first), 'a', byte(second), byte(third)})
				checkLoad(t, []byte{byte(first), byte(second), byte(third), 1})
			}
		}
	}
	source := rand.New(rand.NewSource(11))
	for range 100000 {
		checkLoad(t, someBytes(source, source.Intn(26)))
	}
	for range 20000 {
		a, b := someBytes(source, source.Intn(12)), someBytes(source, source.Intn(4))
		checkLoad(t, joined([]byte{byte(source.Intn(9))}, a, b))
	}
}

func TestP11_2DecodeNearLoadsAsTold(t *testing.T) {
	source := rand.New(rand.NewSource(12))
	list := rightOnes()
	for range 3000 {
		load := plainLoad(list[source.Intn(len(list))])
		for i := range load {
			for _, b := range []byte{0, 1, 2, 6, 127, 128, 129, 255, load[i] ^ 128, load[i] + 1, load[i] - 1} {
				turned := bytes.Clone(load)
				turned[i] = b
				checkLoad(t, turned)
				checkLoad(t, joined(load[:i], []byte{b}, load[i:]))
			}
			checkLoad(t, joined(load[:i], load[i+1:]))
			checkLoad(t, load[:i])
		}
	}
}

// guarded answers the bytes with spare room behind them, and a check that
// neither has changed.
func guarded(t *testing.T, b []byte) ([]byte, func()) {
	whole := joined(b, bytes.Repeat([]byte{77}, 32))
	before := bytes.Clone(whole)
	return whole[:len(b)], func() {
		t.Helper()
		if !bytes.Equal(whole, before) {
			t.Errorf("%v became %v", before, whole)
		}
	}
}

// spoil writes over all that bytes have, their spare room too.
func spoil(b []byte) {
	b = b[:cap(b)]
	for i := range b {
		b[i] ^= 255
	}
}

func TestP11_3LoadsAreNotChanged(t *testing.T) {
	for _, b := range [][]byte{{}, {2}, {2, 6}, {2, 6, 1}, {1, 97, 98}, {1}, {1, 0}, {4}, {4, 4}, {9, 1}, {2, 128, 0, 1}} {
		load, check := guarded(t, b)
		command.Decode(load)
		check()
		command.Decode(load[:len(load):len(load)])
		check()
	}
}

func TestP11_3CommandsAreNotKept(t *testing.T) {
	for _, c := range rightOnes() {
		load := append(make([]byte, 0, 64), plainLoad(c)...)
		got, err := command.Decode(load)
		spoil(load)
		if got != c || err != api.OK {
			t.Fatalf("%+v, %d by now, not %+v", got, err, c)
		}
	}
}

func TestP11_3LoadsAreNewMemory(t *testing.T) {
	for _, c := range rightOnes() {
		want := plainLoad(c)
		text := strings.Clone(c.Text)
		first, _ := command.Encode(c)
		second, _ := command.Encode(c)
		spoil(first)
		if !bytes.Equal(second, want) || c.Text != text {
			t.Fatalf("%+v: %v by now, not %v", c, second, want)
		}
		if third, _ := command.Encode(c); !bytes.Equal(third, want) {
			t.Fatalf("%+v: %v by now, not %v", c, third, want)
		}
	}
}

func TestP11_3CallsAnswerAlikeAgain(t *testing.T) {
	loads := [][]byte{{2, 6, 1}, {}, {1, 97, 98}, {2, 6}, {4}, {1}, {1, 32}, {7}}
	var before []string
	for turn := range 3 {
		for i, load := range loads {
			c, err := command.Decode(load)
			b, again := command.Encode(c)
			told := fmt.Sprint(c, err, b, again, command.Right(c), command.Name(c.Text))
			if turn == 0 {
				before = append(before, told)
			} else if told != before[i] {
				t.Errorf("%v: %s, not %s as before", load, told, before[i])
			}
		}
	}
}

func TestP11_4CommandsAndLoadsAreEachOthers(t *testing.T) {
	made := map[string]api.Command{}
	for _, c := range rightOnes() {
		load, err := command.Encode(c)
		if err != api.OK {
			t.Fatalf("%+v: %d", c, err)
		}
		if other, ok := made[string(load)]; ok && other != c {
			t.Fatalf("%+v and %+v are both %v", other, c, load)
		}
		made[string(load)] = c
		if back, err := command.Decode(load); back != c || err != api.OK {
			t.Fatalf("%+v: out of %v came %+v, %d", c, load, back, err)
		}
	}
}

func TestP11_4WhatIsReadIsRightAndWrittenAlike(t *testing.T) {
	source := rand.New(rand.NewSource(13))
	found := 0
	for range 200000 {
		load := someBytes(source, source.Intn(8))
		c, err := command.Decode(load)
		if err != api.OK {
			continue
		}
		found++
		if again, err := command.Encode(c); !command.Right(c) || !bytes.Equal(again, load) || err != api.OK {
			t.Fatalf("%v: %+v is written as %v, %d", load, c, again, err)
		}
	}
	if found < 1000 {
		t.Errorf("only %d of the bytes were loads", found)
	}
}

func TestP11_4LoadsAreNotTheBeginningsOfOthers(t *testing.T) {
	for _, c := range rightOnes() {
		load := plainLoad(c)
		for size := range load {
			_, err := command.Decode(load[:size])
			if want := c.Do == api.CmdHello && size > 1; (err == api.OK) != want {
				t.Fatalf("%v, of %v: %d", load[:size], load, err)
			}
		}
		for b := range 256 {
			longer := append(load[:len(load):len(load)], byte(b))
			_, err := command.Decode(longer)
			want := c.Do == api.CmdHello && len(c.Text) < api.MaxName && strings.IndexByte(letters, byte(b)) >= 0
			if (err == api.OK) != want {
				t.Fatalf("%v, longer by %d: %d", load, b, err)
			}
		}
	}
}

func TestT1CommandsComeThroughFrames(t *testing.T) {
	var stream []byte
	list := rightOnes()
	for _, c := range list {
		load, _ := command.Encode(c)
		sent, err := frame.Wrap(load)
		if err != api.OK {
			t.Fatalf("%+v: %d", c, err)
		}
		stream = append(stream, sent...)
	}
	source := rand.New(rand.NewSource(14))
	feed := frame.New()
	var came []api.Command
	for len(stream) > 0 {
		size := 1 + source.Intn(min(len(stream), 40))
		loads, err := feed.Push(stream[:size])
		if err != api.OK {
			t.Fatal(err)
		}
		for _, load := range loads {
			c, err := command.Decode(load)
			if err != api.OK {
				t.Fatalf("%v: %d", load, err)
			}
			came = append(came, c)
		}
		stream = stream[size:]
	}
	if !slices.Equal(came, list) {
		t.Errorf("%d commands came of %d, or others", len(came), len(list))
	}
}
