package message_test

import (
	"bytes"
	"encoding/binary"
	"fmt"
	"maps"
	"math/rand"
	"regexp"
	"slices"
	"strings"
	"testing"

	"barrow/api"
	"barrow/frame"
	"barrow/message"
	"barrow/pack"
)

// plainSizes are how many numbers messages have, written out.
var plainSizes = map[int]int{
	api.MsgError: 2, api.MsgHello: 1, api.MsgReset: 0, api.MsgEnter: 10, api.MsgGone: 1,
	api.MsgField: 3, api.MsgLog: 5, api.MsgOffer: 3, api.MsgAward: 2, api.MsgSynced: 0,
}

// letters are the bytes that names may have, written out.
const letters = "abcdefghijklmnopqrstuvwxyzABCDEFGHIJKLMNOPQRSTUVWXYZ0123456789-"

// plainTexts are the names and the empty text, told in another way.
var plainTexts = regexp.MustCompile(`\A[a-zA-Z0-9-]{0,24}\z`)

// plainRight tells of a message whether it is right.
func plainRight(m api.Message) bool {
	size, ok := plainSizes[m.Do]
	switch {
	case !ok || len(m.L) != size:
		return false
	case m.Do == api.MsgEnter:
		return plainTexts.MatchString(m.Text)
	}
	return len(m.Text) == 0
}

// plainLoad is the load of a right message; the library writes the numbers.
func plainLoad(m api.Message) []byte {
	b := []byte{byte(m.Do)}
	for _, n := range m.L {
		b = binary.AppendVarint(b, int64(n))
	}
	return append(b, m.Text...)
}

// plainNumber is the number that just these bytes are, as the library writes
// it.
func plainNumber(b []byte) (int, bool) {
	n, size := binary.Varint(b)
	return int(n), size == len(b) && bytes.Equal(binary.AppendVarint(nil, n), b)
}

// plainMessage looks for the right message whose load that is: each of its
// numbers ends with the first byte below 128.
func plainMessage(load []byte) (api.Message, bool) {
	if len(load) == 0 {
		return api.Message{}, false
	}
	m, rest := api.Message{Do: int(load[0])}, load[1:]
	size, ok := plainSizes[m.Do]
	if !ok {
		return api.Message{}, false
	}
	for range size {
		end := 1 + slices.IndexFunc(rest, func(b byte) bool { return b < 128 })
		n, ok := plainNumber(rest[:end])
		if end == 0 || !ok {
			return api.Message{}, false
		}
		m.L, rest = append(m.L, n), rest[end:]
	}
	m.Text = string(rest)
	if !plainRight(m) {
		return api.Message{}, false
	}
	return m, true
}

// tell is all that a message has, as a text.
func tell(m api.Message) string {
	return fmt.Sprintf("%d %v %q", m.Do, m.L, m.Text)
}

// plainSame tells of two messages whether they are alike.
func plainSame(a, b api.Message) bool { return tell(a) == tell(b) }

// rightDos are the ten, rising.
func rightDos() []int { return slices.Sorted(maps.Keys(plainSizes)) }

// numbers are the ends, nought, and both sides of each place at which a
// written number gets a byte longer.
func numbers() []int {
	list := []int{0, 1, -1, 3, -2, 300, api.MinInt, api.MinInt + 1, api.MaxInt - 1, api.MaxInt}
	for shift := 6; shift < 63; shift += 7 {
		n := 1 << shift
		list = append(list, n-1, n, -n, -n-1)
	}
	return list
}

// dos are all from below the first Do to beyond the last, the ends of
// numbers, and those that are a Do in their lowest bytes alone.
func dos() []int {
	list := []int{api.MinInt, api.MinInt + 1, api.MinInt + 2, -api.MsgField, -256 + api.MsgHello, -256 + api.MsgReset, api.MaxInt - 1, api.MaxInt}
	for do := -20; do < 300; do++ {
		list = append(list, do)
	}
	for _, high := range []int{1 << 8, 1 << 16, 1 << 31, 1 << 32, 1 << 62, api.MinInt} {
		for do := range 12 {
			list = append(list, high+do)
		}
	}
	return list
}

// names are some of all lengths, and of all that names may have.
func names() []string {
	list := []string{"ab", "aB", "a-b", "-", "--", "0", "9", "Z", "a", "A", "007", "-1"}
	for size := range api.MaxName {
		list = append(list, letters[size:2*size+1], letters[len(letters)-size-1:])
	}
	return list
}

// noNames are texts that are neither a name nor empty.
func noNames() []string {
	long := strings.Repeat("x", api.MaxName+1)
	return []string{
		" ", "a b", " a", "a ", "a_b", "a.b", "\x00", "ab\x00", "\xff", "\u00e9", "ab\u00df", "\u2010", "a\n", "\n", "\n\n",
		long, long[1:] + " ", long + long, strings.Repeat("\u00e9", 12), strings.Repeat("-", 1000), strings.Repeat("a", 256+3),
	}
}

// counted is so many numbers, no two alike.
func counted(count int) []int {
	l := make([]int, count)
	for i := range l {
		l[i] = 70*i - 100
	}
	return l
}

// filled is the same number so often.
func filled(count, n int) []int {
	return slices.Repeat([]int{n}, count)
}

// rightOnes are right messages of each Do: numbers of all lengths, all of them
// or one alone, and all sorts of texts. No two of them are alike.
func rightOnes() []api.Message {
	var list []api.Message
	seen := map[string]bool{}
	add := func(do int, l []int, text string) {
		m := api.Message{Do: do, L: l, Text: text}
		if told := tell(m); !seen[told] {
			seen[told] = true
			list = append(list, m)
		}
	}
	for _, do := range rightDos() {
		size := plainSizes[do]
		add(do, counted(size), "")
		for _, n := range numbers() {
			add(do, filled(size, n), "")
			for i := range size {
				l := counted(size)
				l[i] = n
				add(do, l, "")
			}
		}
	}
	for _, name := range names() {
		add(api.MsgEnter, counted(plainSizes[api.MsgEnter]), name)
		add(api.MsgEnter, filled(plainSizes[api.MsgEnter], api.MinInt), name)
	}
	return list
}

// anyOnes are messages of all sorts, right or not.
func anyOnes() []api.Message {
	var list []api.Message
	for _, do := range dos() {
		for size := range 13 {
			for _, text := range []string{"", "ab", "a b", letters[:api.MaxName], letters[:api.MaxName+1]} {
				list = append(list, api.Message{Do: do, L: counted(size), Text: text})
			}
		}
	}
	for _, do := range rightDos() {
		for _, text := range append(names(), noNames()...) {
			list = append(list, api.Message{Do: do, L: counted(plainSizes[do]), Text: text})
		}
	}
	return list
}

// someBytes are drawn so that loads come often, and numbers of many digits.
func someBytes(source *rand.Rand, count int) []byte {
	b := make([]byte, count)
	for i := range b {
		switch source.Intn(5) {
		case 0:
			b[i] = byte(source.Intn(256))
		case 1:
			b[i] = letters[source.Intn(len(letters))]
		case 2:
			b[i] = byte(source.Intn(4))
		case 3:
			b[i] = byte(source.Intn(128))
		default:
			b[i] = 128 + byte(source.Intn(128))
		}
	}
	if count > 0 {
		b[0] = byte(source.Intn(12))
	}
	return b
}

func joined(parts ...[]byte) []byte {
	return bytes.Join(parts, nil)
}

// isZero tells whether a message is the zero value.
func isZero(m api.Message) bool {
	return m.Do == 0 && m.L == nil && m.Text == ""
}

// refused tells where a load isn't, with a zero message beside it.
func refused(t *testing.T, name string, load []byte) {
	t.Helper()
	if m, err := message.Decode(load); !isZero(m) || err != api.ErrForm {
		t.Errorf("%s: %v: %+v, %d, not ErrForm", name, load, m, err)
	}
}

// checkLoad holds Decode against the plain telling.
func checkLoad(t *testing.T, load []byte) {
	t.Helper()
	want, ok := plainMessage(load)
	m, err := message.Decode(load)
	switch {
	case ok && (err != api.OK || !plainSame(m, want)):
		t.Fatalf("%v: %+v, %d, not %+v", load, m, err, want)
	case !ok && (err != api.ErrForm || !isZero(m)):
		t.Fatalf("%v: %+v, %d, not ErrForm", load, m, err)
	}
}

// checkMessage holds Right and Encode against the plain telling.
func checkMessage(t *testing.T, m api.Message) {
	t.Helper()
	want := plainRight(m)
	if message.Right(m) != want {
		t.Fatalf("Right(%+v): %v, not %v", m, !want, want)
	}
	load, err := message.Encode(m)
	switch {
	case want && (err != api.OK || !bytes.Equal(load, plainLoad(m))):
		t.Fatalf("Encode(%+v): %v, %d, not %v", m, load, err, plainLoad(m))
	case !want && (err != api.ErrArg || load != nil):
		t.Fatalf("Encode(%+v): %v, %d, not ErrArg", m, load, err)
	}
}

func TestP12_1Sizes(t *testing.T) {
	cases := []struct {
		do   int
		size int
		ok   bool
	}{
		{api.MinInt, 0, false}, {-256, 0, false}, {-1, 0, false}, {0, 0, false},
		{api.MsgError, 2, true}, {api.MsgHello, 1, true}, {api.MsgReset, 0, true}, {api.MsgEnter, 1 + api.Fields, true}, {api.MsgGone, 1, true},
		{api.MsgField, 3, true}, {api.MsgLog, 5, true}, {api.MsgOffer, 3, true}, {api.MsgAward, 2, true}, {api.MsgSynced, 0, true},
		{11, 0, false}, {12, 0, false}, {256, 0, false}, {256 + api.MsgLog, 0, false}, {api.MaxInt, 0, false},
	}
	for _, c := range cases {
		if size, ok := message.Size(c.do); size != c.size || ok != c.ok {
			t.Errorf("Size(%d): %d, %v, not %d, %v", c.do, size, ok, c.size, c.ok)
		}
	}
	for _, do := range dos() {
		want, there := plainSizes[do]
		if size, ok := message.Size(do); size != want || ok != there {
			t.Errorf("Size(%d): %d, %v, not %d, %v", do, size, ok, want, there)
		}
	}
}

func TestP12_1RightAndEncodeByCases(t *testing.T) {
	long := letters[:api.MaxName]
	ten := []int{7, 0, 1, -1, 63, 64, -64, -65, 300, 2}
	tenLoad := []byte{4, 14, 0, 2, 1, 126, 128, 1, 127, 129, 1, 216, 4, 4}
	cases := []struct {
		m    api.Message
		load []byte
	}{
		{api.Message{Do: api.MsgField, L: []int{7, 2, -1}}, []byte{6, 14, 4, 1}},
		{api.Message{Do: api.MsgReset}, []byte{3}},
		{api.Message{Do: api.MsgReset, L: []int{}}, []byte{3}},
		{api.Message{Do: api.MsgReset, L: []int{0}}, nil},
		{api.Message{Do: api.MsgReset, Text: "ab"}, nil},
		{api.Message{Do: api.MsgSynced}, []byte{10}},
		{api.Message{Do: api.MsgSynced, L: []int{}}, []byte{10}},
		{api.Message{Do: api.MsgSynced, L: []int{1}}, nil},
		{api.Message{Do: api.MsgSynced, Text: " "}, nil},
		{api.Message{Do: api.MsgError, L: []int{2, 9}}, []byte{1, 4, 18}},
		{api.Message{Do: api.MsgError, L: []int{2}}, nil},
		{api.Message{Do: api.MsgError, L: []int{2, 9, 0}}, nil},
		{api.Message{Do: api.MsgError}, nil},
		{api.Message{Do: api.MsgHello, L: []int{0}}, []byte{2, 0}},
		{api.Message{Do: api.MsgHello, L: []int{}}, nil},
		{api.Message{Do: api.MsgHello, L: []int{1}, Text: "ab"}, nil},
		{api.Message{Do: api.MsgEnter, L: ten}, tenLoad},
		{api.Message{Do: api.MsgEnter, L: ten, Text: "-"}, joined(tenLoad, []byte("-"))},
		{api.Message{Do: api.MsgEnter, L: ten, Text: "Ab-9"}, joined(tenLoad, []byte("Ab-9"))},
		{api.Message{Do: api.MsgEnter, L: ten, Text: long}, joined(tenLoad, []byte(long))},
		{api.Message{Do: api.MsgEnter, L: ten, Text: long + "a"}, nil},
		{api.Message{Do: api.MsgEnter, L: ten, Text: "a b"}, nil},
		{api.Message{Do: api.MsgEnter, L: ten, Text: "\x00"}, nil},
		{api.Message{Do: api.MsgEnter, L: ten[1:]}, nil},
		{api.Message{Do: api.MsgEnter, L: ten[1:], Text: "ab"}, nil},
		{api.Message{Do: api.MsgEnter, L: append(ten[:10:10], 1)}, nil},
		{api.Message{Do: api.MsgEnter, Text: "ab"}, nil},
		{api.Message{Do: api.MsgGone, L: []int{-300}}, []byte{5, 215, 4}},
		{api.Message{Do: api.MsgField, L: []int{7, 2}}, nil},
		{api.Message{Do: api.MsgField, L: []int{7, 2, -1}, Text: "a"}, nil},
		{api.Message{Do: api.MsgLog, L: []int{1, 2, 3, 4, 5}}, []byte{7, 2, 4, 6, 8, 10}},
		{api.Message{Do: api.MsgOffer, L: []int{-1, -2, -3}}, []byte{8, 1, 3, 5}},
		{
			api.Message{Do: api.MsgAward, L: []int{api.MaxInt, api.MinInt}},
			joined([]byte{9, 254}, bytes.Repeat([]byte{255}, 8), []byte{1}, bytes.Repeat([]byte{255}, 9), []byte{1}),
		},
		{api.Message{}, nil},
		{api.Message{Text: "ab"}, nil},
		{api.Message{L: []int{1}}, nil},
		{api.Message{Do: 11}, nil},
		{api.Message{Do: -1}, nil},
		{api.Message{Do: 256 + api.MsgReset}, nil},
		{api.Message{Do: 256 + api.MsgHello, L: []int{1}}, nil},
		{api.Message{Do: api.MaxInt}, nil},
		{api.Message{Do: api.MinInt}, nil},
	}
	for _, c := range cases {
		err := api.OK
		if c.load == nil {
			err = api.ErrArg
		}
		if message.Right(c.m) != (err == api.OK) {
			t.Errorf("Right(%+v): %v", c.m, err != api.OK)
		}
		if load, got := message.Encode(c.m); !bytes.Equal(load, c.load) || got != err {
			t.Errorf("Encode(%+v): %v, %d, not %v, %d", c.m, load, got, c.load, err)
		}
	}
}

func TestP12_1RightByHowManyNumbers(t *testing.T) {
	for _, do := range rightDos() {
		size := plainSizes[do]
		for count := range size + 4 {
			l := filled(count, 0)
			if got := message.Right(api.Message{Do: do, L: l}); got != (count == size) {
				t.Errorf("Do %d with %d numbers: %v", do, count, got)
			}
		}
		for _, none := range [][]int{nil, {}, make([]int, 0, 20)} {
			if got := message.Right(api.Message{Do: do, L: none}); got != (size == 0) {
				t.Errorf("Do %d with no numbers: %v", do, got)
			}
		}
		for _, many := range []int{256, 256 + size, 1 << 16} {
			if message.Right(api.Message{Do: do, L: make([]int, many)}) {
				t.Errorf("Do %d with %d numbers: it is right", do, many)
			}
		}
	}
}

func TestP12_1RightByText(t *testing.T) {
	for _, do := range rightDos() {
		l := counted(plainSizes[do])
		if !message.Right(api.Message{Do: do, L: l}) {
			t.Errorf("Do %d with no text: it is not right", do)
		}
		for _, name := range names() {
			if got := message.Right(api.Message{Do: do, L: l, Text: name}); got != (do == api.MsgEnter) {
				t.Errorf("Do %d with %q: %v", do, name, got)
			}
		}
		for _, s := range noNames() {
			if message.Right(api.Message{Do: do, L: l, Text: s}) {
				t.Errorf("Do %d with %q: it is right", do, s)
			}
		}
	}
	for b := range 256 {
		one, want := string([]byte{byte(b)}), strings.IndexByte(letters, byte(b)) >= 0
		for _, s := range []string{one, "x" + one, one + "x", letters[:23] + one, one + letters[:23]} {
			if message.Right(api.Message{Do: api.MsgEnter, L: counted(10), Text: s}) != want {
				t.Errorf("MsgEnter with %q: %v, not %v", s, !want, want)
			}
		}
	}
}

func TestP12_1RightAndEncodeAsTold(t *testing.T) {
	for _, m := range append(anyOnes(), rightOnes()...) {
		checkMessage(t, m)
	}
	source := rand.New(rand.NewSource(11))
	all := numbers()
	for range 50000 {
		m := api.Message{Do: source.Intn(13) - 1, L: make([]int, source.Intn(12))}
		if size, ok := plainSizes[m.Do]; ok && source.Intn(4) > 0 {
			m.L = make([]int, size)
		}
		for i := range m.L {
			m.L[i] = all[source.Intn(len(all))]
		}
		if source.Intn(3) == 0 {
			m.Text = string(someBytes(source, source.Intn(4)))
		}
		checkMessage(t, m)
	}
}

func TestP12_1NumbersAreWrittenByPack(t *testing.T) {
	for _, do := range rightDos() {
		size := plainSizes[do]
		for i := range size {
			for _, n := range numbers() {
				l, want := counted(size), []byte{byte(do)}
				l[i] = n
				for _, n := range l {
					want = pack.Int(want, n)
				}
				if load, err := message.Encode(api.Message{Do: do, L: l}); !bytes.Equal(load, want) || err != api.OK {
					t.Fatalf("%d %v: %v, %d, not %v", do, l, load, err, want)
				}
			}
		}
	}
}

// checkSame holds Same to what is wanted, both ways round.
func checkSame(t *testing.T, a, b api.Message, want bool) {
	t.Helper()
	if message.Same(a, b) != want || message.Same(b, a) != want {
		t.Errorf("Same(%+v, %+v): %v, and %v turned round, not %v", a, b, message.Same(a, b), message.Same(b, a), want)
	}
}

func TestP12_1SameByCases(t *testing.T) {
	enter := api.Message{Do: api.MsgEnter, L: counted(10), Text: "ab"}
	twin := api.Message{Do: enter.Do, L: slices.Clone(enter.L), Text: strings.Clone(enter.Text)}
	checkSame(t, enter, twin, true)
	for i := range enter.L {
		for _, turn := range []int{1, -1, 1 << 8, 1 << 32, api.MinInt} {
			other := twin
			other.L = slices.Clone(twin.L)
			other.L[i] += turn
			checkSame(t, enter, other, false)
		}
	}
	for _, text := range append(noNames(), "", "a", "b", "ba", "aB", "Ab", "abc", "ab\x00") {
		other := twin
		other.Text = text
		checkSame(t, enter, other, false)
	}
	for _, do := range dos() {
		other := twin
		other.Do = do
		checkSame(t, enter, other, do == api.MsgEnter)
	}
	for count := range 12 {
		other := twin
		other.L = counted(count)
		checkSame(t, enter, other, count == 10)
	}
	reversed := twin
	reversed.L = slices.Clone(twin.L)
	slices.Reverse(reversed.L)
	checkSame(t, enter, reversed, false)
}

func TestP12_1SameOfNoNumbers(t *testing.T) {
	for _, do := range append(rightDos(), 0, 11, api.MinInt) {
		for _, text := range []string{"", "ab", " "} {
			lists := [][]int{nil, {}, make([]int, 0, 9), counted(3)[:0]}
			for _, a := range lists {
				for _, b := range lists {
					checkSame(t, api.Message{Do: do, L: a, Text: text}, api.Message{Do: do, L: b, Text: text}, true)
				}
				checkSame(t, api.Message{Do: do, L: a, Text: text}, api.Message{Do: do, L: []int{0}, Text: text}, false)
			}
		}
	}
}

// TestP12_1SameAsTold is of messages that are right and of such as are not.
func TestP12_1SameAsTold(t *testing.T) {
	source := rand.New(rand.NewSource(12))
	draw := func() api.Message {
		m := api.Message{Do: source.Intn(3), Text: []string{"", "a", " "}[source.Intn(3)]}
		for range source.Intn(3) {
			m.L = append(m.L, source.Intn(2))
		}
		return m
	}
	alike := 0
	for range 50000 {
		a, b := draw(), draw()
		want := plainSame(a, b)
		if want {
			alike++
		}
		checkSame(t, a, b, want)
	}
	if alike < 1000 {
		t.Errorf("only %d were alike", alike)
	}
	list := rightOnes()
	for range 50000 {
		i, j := source.Intn(len(list)), source.Intn(len(list))
		checkSame(t, list[i], list[j], i == j)
	}
}

func TestP12_2Examples(t *testing.T) {
	ten := []byte{4, 14, 0, 2, 1, 126, 128, 1, 127, 129, 1, 216, 4, 4}
	l := []int{7, 0, 1, -1, 63, 64, -64, -65, 300, 2}
	cases := []struct {
		load []byte
		want api.Message
	}{
		{[]byte{6, 14, 4, 1}, api.Message{Do: api.MsgField, L: []int{7, 2, -1}}},
		{[]byte{3}, api.Message{Do: api.MsgReset}},
		{[]byte{10}, api.Message{Do: api.MsgSynced}},
		{[]byte{1, 4, 18}, api.Message{Do: api.MsgError, L: []int{2, 9}}},
		{[]byte{2, 0}, api.Message{Do: api.MsgHello, L: []int{0}}},
		{[]byte{5, 215, 4}, api.Message{Do: api.MsgGone, L: []int{-300}}},
		{[]byte{7, 2, 4, 6, 8, 10}, api.Message{Do: api.MsgLog, L: []int{1, 2, 3, 4, 5}}},
		{[]byte{8, 1, 3, 5}, api.Message{Do: api.MsgOffer, L: []int{-1, -2, -3}}},
		{[]byte{9, 1, 127}, api.Message{Do: api.MsgAward, L: []int{-1, -64}}},
		{ten, api.Message{Do: api.MsgEnter, L: l}},
		{joined(ten, []byte("a")), api.Message{Do: api.MsgEnter, L: l, Text: "a"}},
		{joined(ten, []byte(letters[39:])), api.Message{Do: api.MsgEnter, L: l, Text: letters[39:]}},
	}
	for _, c := range cases {
		if got, err := message.Decode(c.load); !plainSame(got, c.want) || err != api.OK {
			t.Errorf("%v: %+v, %d, not %+v", c.load, got, err, c.want)
		}
	}
}

func TestP12_2NoDos(t *testing.T) {
	refused(t, "nil", nil)
	refused(t, "empty", []byte{})
	refused(t, "empty, with spare room", make([]byte, 0, 9))
	for first := range 256 {
		if _, ok := plainSizes[first]; ok {
			continue
		}
		for _, rest := range [][]byte{nil, {0}, {6, 1}, {97, 98}, {6, 1, 0}, make([]byte, 5), make([]byte, 10)} {
			refused(t, "no Do", append([]byte{byte(first)}, rest...))
		}
	}
}

// TestP12_2LoadsThatEnd cuts loads ahead of each number, and within each.
func TestP12_2LoadsThatEnd(t *testing.T) {
	for _, do := range rightDos() {
		for _, n := range []int{0, -1, 64, -300, 1 << 40, api.MaxInt, api.MinInt} {
			load := plainLoad(api.Message{Do: do, L: filled(plainSizes[do], n)})
			for size := range load {
				refused(t, "it ends too early", load[:size])
				refused(t, "it ends too early", load[:size:size])
			}
		}
	}
}

// TestP12_2LoadsThatGoOn puts bytes behind loads: only of MsgEnter those of a
// name may stand there.
func TestP12_2LoadsThatGoOn(t *testing.T) {
	for _, do := range rightDos() {
		load := plainLoad(api.Message{Do: do, L: counted(plainSizes[do])})
		for b := range 256 {
			longer := append(load[:len(load):len(load)], byte(b))
			if do == api.MsgEnter && strings.IndexByte(letters, byte(b)) >= 0 {
				if m, err := message.Decode(longer); m.Text != string([]byte{byte(b)}) || err != api.OK {
					t.Errorf("%v: %+v, %d", longer, m, err)
				}
				continue
			}
			refused(t, "it goes on", longer)
			refused(t, "it goes on for long", append(longer, longer...))
		}
		refused(t, "another one behind it", joined(load, load))
		for _, name := range names() {
			if do != api.MsgEnter {
				refused(t, "a name", joined(load, []byte(name)))
			}
		}
		for _, s := range noNames() {
			refused(t, "no name", joined(load, []byte(s)))
		}
		refused(t, "a name with a byte too many", joined(load, []byte(letters[:api.MaxName+1])))
	}
}

// TestP12_2NumbersThatAreNone puts bytes that are no number in the place of
// each number.
func TestP12_2NumbersThatAreNone(t *testing.T) {
	none := map[string][]byte{
		"nought in two bytes":             {128, 0},
		"a last byte of nought":           {134, 0},
		"a last byte of nought, of three": {134, 129, 0},
		"a last byte of nought, of ten":   joined(bytes.Repeat([]byte{129}, 9), []byte{0}),
		"eleven bytes":                    joined(bytes.Repeat([]byte{129}, 10), []byte{1}),
		"nought in eleven bytes":          joined(bytes.Repeat([]byte{128}, 10), []byte{0}),
		"1 in eleven bytes":               joined([]byte{130}, bytes.Repeat([]byte{128}, 9), []byte{0}),
		"2^64":                            joined(bytes.Repeat([]byte{128}, 9), []byte{2}),
		"2^64 + 1":                        joined([]byte{129}, bytes.Repeat([]byte{128}, 8), []byte{2}),
		"2^70 - 1":                        joined(bytes.Repeat([]byte{255}, 9), []byte{127}),
		"no end":                          bytes.Repeat([]byte{200}, 1000),
	}
	for _, do := range rightDos() {
		size := plainSizes[do]
		for i := range size {
			for name, b := range none {
				ahead := plainLoad(api.Message{Do: do, L: counted(i)})
				behind := plainLoad(api.Message{L: counted(size - i - 1)})[1:]
				refused(t, name, joined(ahead, b, behind))
				refused(t, name+", and a name", joined(ahead, b, behind, []byte("ab")))
			}
		}
	}
}

func TestP12_2DecodeAsTold(t *testing.T) {
	for first := range 13 {
		checkLoad(t, []byte{byte(first)})
		for second := range 256 {
			checkLoad(t, []byte{byte(first), byte(second)})
			for third := range 256 {
				checkLoad(t, []byte{byte(first), byte(second), byte(third)})
				checkLoad(t, []byte{byte(first), 129, byte(second), byte(third)})
				checkLoad(t, []byte{byte(first), byte(second), byte(third), 1})
				checkLoad(t, []byte{byte(first), 2, 4, byte(second), byte(third), 1})
				checkLoad(t, []byte{byte(first), 2, 4, 6, 8, 10, 12, 14, 16, 18, byte(second), byte(third)})
			}
		}
	}
	source := rand.New(rand.NewSource(13))
	for range 100000 {
		checkLoad(t, someBytes(source, source.Intn(40)))
	}
	for range 20000 {
		checkLoad(t, bytes.Repeat([]byte{byte(source.Intn(12))}, source.Intn(40)))
		checkLoad(t, make([]byte, source.Intn(300)))
	}
}

func TestP12_2DecodeNearLoadsAsTold(t *testing.T) {
	source := rand.New(rand.NewSource(14))
	list := rightOnes()
	for range 3000 {
		load := plainLoad(list[source.Intn(len(list))])
		for i := range load {
			for _, b := range []byte{0, 1, 2, 6, 127, 128, 129, 255, load[i] ^ 128, load[i] + 1, load[i] - 1} {
				turned := bytes.Clone(load)
				turned[i] = b
				checkLoad(t, turned)
				checkLoad(t, joined(load[:i], []byte{b}, load[i:]))
			}
			checkLoad(t, joined(load[:i], load[i+1:]))
			checkLoad(t, load[:i])
		}
	}
}

// guarded answers the list with spare room behind it, and a check that neither
// has changed.
func guarded[T comparable](t *testing.T, list []T, spare T) ([]T, func()) {
	whole := append(slices.Clone(list), slices.Repeat([]T{spare}, 32)...)
	before := slices.Clone(whole)
	return whole[:len(list)], func() {
		t.Helper()
		if !slices.Equal(whole, before) {
			t.Errorf("%v became %v", before, whole)
		}
	}
}

// spoilBytes writes over all that bytes have, their spare room too.
func spoilBytes(b []byte) {
	b = b[:cap(b)]
	for i := range b {
		b[i] ^= 255
	}
}

// spoilNumbers writes over all that a list has, its spare room too.
func spoilNumbers(l []int) {
	l = l[:cap(l)]
	for i := range l {
		l[i] = ^l[i]
	}
}

// ofEachSort are right messages of each Do, and some that are not.
func ofEachSort() []api.Message {
	list := []api.Message{{}, {Do: 11, L: counted(3)}, {Do: api.MsgLog, L: counted(4)}, {Do: api.MsgReset, L: counted(1)}, {Do: api.MsgEnter, L: counted(10), Text: "a b"}}
	for _, do := range rightDos() {
		list = append(list, api.Message{Do: do, L: counted(plainSizes[do])}, api.Message{Do: do, L: filled(plainSizes[do], api.MinInt)})
	}
	return append(list, api.Message{Do: api.MsgEnter, L: counted(10), Text: "ab"}, api.Message{Do: api.MsgEnter, L: counted(10), Text: letters[:api.MaxName]})
}

func TestP12_3MessagesAreNotChanged(t *testing.T) {
	for _, m := range ofEachSort() {
		l, check := guarded(t, m.L, 77)
		m.L = l
		message.Right(m)
		message.Encode(m)
		message.Same(m, m)
		message.Same(m, api.Message{Do: m.Do, L: counted(len(l)), Text: m.Text})
		check()
		m.L = l[:len(l):len(l)]
		message.Encode(m)
		check()
	}
}

func TestP12_3LoadsAreNotChanged(t *testing.T) {
	loads := [][]byte{{}, {6}, {6, 14}, {6, 14, 4, 1}, {6, 14, 4, 1, 0}, {3}, {3, 0}, {11, 1}, {5, 128, 0}, {4, 0, 0, 0, 0, 0, 0, 0, 0, 0, 0, 97, 98}, make([]byte, 40)}
	for _, b := range loads {
		load, check := guarded(t, b, 77)
		message.Decode(load)
		check()
		message.Decode(load[:len(load):len(load)])
		check()
	}
}

// TestP12_3MessagesAreNotKept writes over the load that a message came of.
func TestP12_3MessagesAreNotKept(t *testing.T) {
	for _, m := range rightOnes() {
		load := append(make([]byte, 0, 256), plainLoad(m)...)
		got, err := message.Decode(load)
		spoilBytes(load)
		if !plainSame(got, m) || err != api.OK {
			t.Fatalf("%+v, %d by now, not %+v", got, err, m)
		}
	}
}

// TestP12_3NumbersAreNotKept writes over the numbers that a load came of.
func TestP12_3NumbersAreNotKept(t *testing.T) {
	for _, m := range rightOnes() {
		want := plainLoad(m)
		l := append(make([]int, 0, 20), m.L...)
		load, err := message.Encode(api.Message{Do: m.Do, L: l, Text: m.Text})
		spoilNumbers(l)
		if !bytes.Equal(load, want) || err != api.OK {
			t.Fatalf("%+v: %v, %d by now, not %v", m, load, err, want)
		}
	}
}

func TestP12_3LoadsAreNewMemory(t *testing.T) {
	for _, m := range rightOnes() {
		want, before := plainLoad(m), api.Message{Do: m.Do, L: slices.Clone(m.L), Text: strings.Clone(m.Text)}
		first, _ := message.Encode(m)
		second, _ := message.Encode(m)
		spoilBytes(first)
		if !bytes.Equal(second, want) || !plainSame(m, before) {
			t.Fatalf("%+v: %v by now, not %v", m, second, want)
		}
		if third, _ := message.Encode(m); !bytes.Equal(third, want) {
			t.Fatalf("%+v: %v by now, not %v", m, third, want)
		}
	}
}

func TestP12_3MessagesAreNewMemory(t *testing.T) {
	for _, m := range rightOnes() {
		load := plainLoad(m)
		before := bytes.Clone(load)
		first, _ := message.Decode(load)
		second, _ := message.Decode(load)
		spoilNumbers(first.L)
		if !plainSame(second, m) || !bytes.Equal(load, before) {
			t.Fatalf("%v: %+v by now, not %+v", before, second, m)
		}
		if third, _ := message.Decode(load); !plainSame(third, m) {
			t.Fatalf("%v: %+v by now, not %+v", before, third, m)
		}
	}
}

func TestP12_3CallsAnswerAlikeAgain(t *testing.T) {
	loads := [][]byte{{6, 14, 4, 1}, {}, {3}, {6, 14}, {10, 0}, {4, 0, 0, 0, 0, 0, 0, 0, 0, 0, 0, 97}, {1, 32}, {7, 1, 1, 1, 1, 1}}
	var before []string
	for turn := range 3 {
		for i, load := range loads {
			m, err := message.Decode(load)
			b, again := message.Encode(m)
			size, ok := message.Size(m.Do)
			told := fmt.Sprint(m, err, b, again, message.Right(m), message.Same(m, m), size, ok)
			if turn == 0 {
				before = append(before, told)
			} else if told != before[i] {
				t.Errorf("%v: %s, not %s as before", load, told, before[i])
			}
		}
	}
}

func TestP12_4MessagesAndLoadsAreEachOthers(t *testing.T) {
	made := map[string]api.Message{}
	for _, m := range rightOnes() {
		load, err := message.Encode(m)
		if err != api.OK {
			t.Fatalf("%+v: %d", m, err)
		}
		if other, ok := made[string(load)]; ok {
			t.Fatalf("%+v and %+v are both %v", other, m, load)
		}
		made[string(load)] = m
		if back, err := message.Decode(load); !message.Same(back, m) || !plainSame(back, m) || err != api.OK {
			t.Fatalf("%+v: out of %v came %+v, %d", m, load, back, err)
		}
	}
}

func TestP12_4WhatIsReadIsRightAndWrittenAlike(t *testing.T) {
	source := rand.New(rand.NewSource(15))
	found := map[int]int{}
	for range 400000 {
		load := someBytes(source, source.Intn(24))
		m, err := message.Decode(load)
		if err != api.OK {
			continue
		}
		found[m.Do]++
		if again, err := message.Encode(m); !message.Right(m) || !bytes.Equal(again, load) || err != api.OK {
			t.Fatalf("%v: %+v is written as %v, %d", load, m, again, err)
		}
	}
	for _, do := range rightDos() {
		if found[do] < 100 {
			t.Errorf("only %d of the bytes were loads of %d", found[do], do)
		}
	}
}

// TestP12_5EachFitsIntoAFrame is of the longest load of each Do.
func TestP12_5EachFitsIntoAFrame(t *testing.T) {
	for _, do := range rightDos() {
		size := plainSizes[do]
		for _, n := range []int{api.MinInt, api.MaxInt} {
			m, want := api.Message{Do: do, L: filled(size, n)}, 1+10*size
			if do == api.MsgEnter {
				m.Text, want = strings.Repeat("Z", api.MaxName), want+api.MaxName
			}
			load, err := message.Encode(m)
			if len(load) != want || err != api.OK {
				t.Errorf("%+v: %d bytes, %d, not %d bytes", m, len(load), err, want)
			}
			sent, err := frame.Wrap(load)
			if !bytes.Equal(sent, joined(pack.Uint(nil, want), load)) || err != api.OK {
				t.Errorf("Wrap of %v: %v, %d", load, sent, err)
			}
		}
	}
}

func TestT1MessagesComeThroughFrames(t *testing.T) {
	var stream []byte
	list := rightOnes()
	for _, m := range list {
		load, _ := message.Encode(m)
		sent, err := frame.Wrap(load)
		if err != api.OK {
			t.Fatalf("%+v: %d", m, err)
		}
		stream = append(stream, sent...)
	}
	source := rand.New(rand.NewSource(16))
	feed := frame.New()
	var came []api.Message
	for len(stream) > 0 {
		size := 1 + source.Intn(min(len(stream), 90))
		loads, err := feed.Push(stream[:size])
		if err != api.OK {
			t.Fatal(err)
		}
		for _, load := range loads {
			m, err := message.Decode(load)
			if err != api.OK {
				t.Fatalf("%v: %d", load, err)
			}
			came = append(came, m)
		}
		stream = stream[size:]
	}
	if !slices.EqualFunc(came, list, message.Same) {
		t.Errorf("%d messages came of %d, or others", len(came), len(list))
	}
}
