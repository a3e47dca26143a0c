package pack_test

import (
	"bytes"
	"encoding/binary"
	"math/big"
	"math/rand"
	"slices"
	"strings"
	"testing"

	"barrow/api"
	"barrow/pack"
)

// numbers are the ends, their neighbours, what lies around the powers of 128
// and of two, and some drawn at a fixed seed.
func numbers() []int {
	list := []int{api.MinInt, api.MinInt + 1, api.MaxInt - 1, api.MaxInt, -300, -2, -1, 0, 1, 2, 300}
	for shift := 5; shift < 63; shift++ {
		n := 1 << shift
		list = append(list, n-1, n, n+1, -n-1, -n, -n+1)
	}
	source := rand.New(rand.NewSource(1))
	for range 100 {
		list = append(list, int(source.Uint64())>>source.Intn(63))
	}
	return list
}

// someBytes are drawn so that numbers of many digits, digits of 0 and ends
// come often.
func someBytes(source *rand.Rand, count int) []byte {
	b := make([]byte, count)
	for i := range b {
		switch source.Intn(5) {
		case 0:
			b[i] = byte(source.Intn(256))
		case 1:
			b[i] = byte(source.Intn(4))
		case 2:
			b[i] = 128 + byte(source.Intn(2))
		default:
			b[i] = 128 + byte(source.Intn(128))
		}
	}
	return b
}

// joined is the parts, one behind the other, in memory of its own.
func joined(parts ...[]byte) []byte {
	return bytes.Join(parts, nil)
}

// digits writes a number from 0 on by dividing, as the document tells it.
func digits(n *big.Int) []byte {
	var b []byte
	rest, digit, base := new(big.Int).Set(n), new(big.Int), big.NewInt(128)
	for {
		rest.DivMod(rest, base, digit)
		if rest.Sign() == 0 {
			return append(b, byte(digit.Int64()))
		}
		b = append(b, byte(digit.Int64())+128)
	}
}

// signed is what the document makes of a number with a sign.
func signed(n int) *big.Int {
	x := big.NewInt(int64(n))
	if n >= 0 {
		return x.Mul(x, big.NewInt(2))
	}
	x.Mul(x, big.NewInt(-2))
	return x.Sub(x, big.NewInt(1))
}

func TestP3_1Examples(t *testing.T) {
	cases := []struct {
		name      string
		got, want []byte
	}{
		{"Uint(300)", pack.Uint(nil, 300), []byte{172, 2}},
		{"Int(-1)", pack.Int(nil, -1), []byte{1}},
		{"Int(1)", pack.Int(nil, 1), []byte{2}},
		{`Text("ab")`, pack.Text(nil, "ab"), []byte{2, 97, 98}},
	}
	for _, c := range cases {
		if !bytes.Equal(c.got, c.want) {
			t.Errorf("%s: %v, not %v", c.name, c.got, c.want)
		}
	}
}

func TestP3_1Uint(t *testing.T) {
	end := []byte{255, 255, 255, 255, 255, 255, 255, 255, 127}
	cases := []struct {
		n    int
		want []byte
	}{
		{api.MinInt, []byte{0}}, {-128, []byte{0}}, {-1, []byte{0}}, {0, []byte{0}},
		{1, []byte{1}}, {127, []byte{127}}, {128, []byte{128, 1}}, {129, []byte{129, 1}},
		{255, []byte{255, 1}}, {256, []byte{128, 2}},
		{16383, []byte{255, 127}}, {16384, []byte{128, 128, 1}},
		{api.MaxInt, end},
		{1 << 62, []byte{128, 128, 128, 128, 128, 128, 128, 128, 64}},
	}
	for _, c := range cases {
		if got := pack.Uint(nil, c.n); !bytes.Equal(got, c.want) {
			t.Errorf("Uint(%d): %v, not %v", c.n, got, c.want)
		}
	}
}

func TestP3_1Int(t *testing.T) {
	cases := []struct {
		n    int
		want []byte
	}{
		{0, []byte{0}}, {-1, []byte{1}}, {1, []byte{2}}, {-2, []byte{3}},
		{63, []byte{126}}, {-64, []byte{127}}, {64, []byte{128, 1}}, {-65, []byte{129, 1}},
		{127, []byte{254, 1}}, {128, []byte{128, 2}}, {-128, []byte{255, 1}},
		{1<<62 - 1, []byte{254, 255, 255, 255, 255, 255, 255, 255, 127}},
		{-1 << 62, []byte{255, 255, 255, 255, 255, 255, 255, 255, 127}},
		{1 << 62, []byte{128, 128, 128, 128, 128, 128, 128, 128, 128, 1}},
		{api.MaxInt, []byte{254, 255, 255, 255, 255, 255, 255, 255, 255, 1}},
		{api.MinInt, []byte{255, 255, 255, 255, 255, 255, 255, 255, 255, 1}},
	}
	for _, c := range cases {
		if got := pack.Int(nil, c.n); !bytes.Equal(got, c.want) {
			t.Errorf("Int(%d): %v, not %v", c.n, got, c.want)
		}
	}
}

func TestP3_1TextAndInts(t *testing.T) {
	long := strings.Repeat("x", 128)
	cases := []struct {
		name      string
		got, want []byte
	}{
		{"no text", pack.Text(nil, ""), []byte{0}},
		{"a text of bytes that are no runes", pack.Text(nil, "\xff\x00\x80"), []byte{3, 255, 0, 128}},
		{"a rune of two bytes", pack.Text(nil, "\u00e9"), []byte{2, 195, 169}},
		{"a text of 127 bytes", pack.Text(nil, long[:127]), joined([]byte{127}, []byte(long[:127]))},
		{"a text of 128 bytes", pack.Text(nil, long), joined([]byte{128, 1}, []byte(long))},
		{"a nil row", pack.Ints(nil, nil), []byte{0}},
		{"no row", pack.Ints(nil, []int{}), []byte{0}},
		{"a row", pack.Ints(nil, []int{0, -1, 300}), []byte{3, 0, 1, 216, 4}},
		{"a row of 127", pack.Ints(nil, make([]int, 127)), joined([]byte{127}, make([]byte, 127))},
		{"a row of 128", pack.Ints(nil, make([]int, 128)), joined([]byte{128, 1}, make([]byte, 128))},
	}
	for _, c := range cases {
		if !bytes.Equal(c.got, c.want) {
			t.Errorf("%s: %v, not %v", c.name, c.got, c.want)
		}
	}
}

func TestP3_1NumbersAreTheirDigits(t *testing.T) {
	for _, n := range numbers() {
		if got, want := pack.Uint(nil, n), digits(big.NewInt(int64(max(n, 0)))); !bytes.Equal(got, want) {
			t.Errorf("Uint(%d): %v, not %v", n, got, want)
		}
		if got, want := pack.Int(nil, n), digits(signed(n)); !bytes.Equal(got, want) {
			t.Errorf("Int(%d): %v, not %v", n, got, want)
		}
		if got, want := pack.Int(nil, n), binary.AppendVarint(nil, int64(n)); !bytes.Equal(got, want) {
			t.Errorf("Int(%d): %v, the library writes %v", n, got, want)
		}
	}
}

func TestP3_1WritingIsBehindWhatWasThere(t *testing.T) {
	for _, ahead := range [][]byte{nil, {}, {7}, {128, 255, 0}} {
		cases := []struct {
			name      string
			got, tail []byte
		}{
			{"Uint", pack.Uint(ahead, 300), []byte{172, 2}},
			{"Uint below 0", pack.Uint(ahead, -300), []byte{0}},
			{"Int", pack.Int(ahead, -1), []byte{1}},
			{"Text", pack.Text(ahead, "ab"), []byte{2, 97, 98}},
			{"Ints", pack.Ints(ahead, []int{1, -1}), []byte{2, 2, 1}},
		}
		for _, c := range cases {
			if want := joined(ahead, c.tail); !bytes.Equal(c.got, want) {
				t.Errorf("%s behind %v: %v, not %v", c.name, ahead, c.got, want)
			}
		}
	}
}

// readCase is bytes that are read from a place on, and what is answered.
type readCase struct {
	name string
	b    []byte
	at   int
	n    int
	next int
	err  api.Errno
}

// placeCases are those that are alike for numbers with and without a sign.
func placeCases() []readCase {
	return []readCase{
		{"no bytes", nil, 0, 0, 0, api.ErrForm},
		{"no bytes, at below 0", nil, -1, 0, -1, api.ErrForm},
		{"no bytes, at past the end", nil, 1, 0, 1, api.ErrForm},
		{"at of -1", []byte{1, 2}, -1, 0, -1, api.ErrForm},
		{"at of MinInt", []byte{1, 2}, api.MinInt, 0, api.MinInt, api.ErrForm},
		{"at the end", []byte{1, 2}, 2, 0, 2, api.ErrForm},
		{"past the end", []byte{1, 2}, 3, 0, 3, api.ErrForm},
		{"at of MaxInt", []byte{1, 2}, api.MaxInt, 0, api.MaxInt, api.ErrForm},
		{"ends ahead of the second byte", []byte{128}, 0, 0, 0, api.ErrForm},
		{"ends ahead of the third byte", []byte{5, 255, 255}, 1, 0, 1, api.ErrForm},
		{"ends ahead of the tenth byte", bytes.Repeat([]byte{128}, 9), 0, 0, 0, api.ErrForm},
		{"only bytes with 128 more", bytes.Repeat([]byte{255}, 1000), 0, 0, 0, api.ErrForm},
		{"only digits of 0", bytes.Repeat([]byte{128}, 1000), 3, 0, 3, api.ErrForm},
		{"0", []byte{0}, 0, 0, 1, api.OK},
		{"0, and more behind it", []byte{9, 0, 0}, 1, 0, 2, api.OK},
		{"a last byte of 0", []byte{128, 0}, 0, 0, 0, api.ErrForm},
		{"a last byte of 0, the number is not 0", []byte{129, 0}, 0, 0, 0, api.ErrForm},
		{"a last byte of 0 behind two", []byte{1, 172, 130, 0}, 1, 0, 1, api.ErrForm},
		{"a last byte of 0, the tenth", joined(bytes.Repeat([]byte{129}, 9), []byte{0}), 0, 0, 0, api.ErrForm},
		{"a last byte of 0, the eleventh", joined(bytes.Repeat([]byte{129}, 10), []byte{0}), 0, 0, 0, api.ErrForm},
		{"2^64", joined(bytes.Repeat([]byte{128}, 9), []byte{2}), 0, 0, 0, api.ErrForm},
		{"2^64 + 1", joined([]byte{129}, bytes.Repeat([]byte{128}, 8), []byte{2}), 0, 0, 0, api.ErrForm},
		{"2^70 - 1", joined(bytes.Repeat([]byte{255}, 9), []byte{127}), 0, 0, 0, api.ErrForm},
		{"2^70", joined(bytes.Repeat([]byte{128}, 10), []byte{1}), 0, 0, 0, api.ErrForm},
		{"2^70 + 1", joined([]byte{129}, bytes.Repeat([]byte{128}, 9), []byte{1}), 0, 0, 0, api.ErrForm},
		{"2^448", joined(bytes.Repeat([]byte{128}, 64), []byte{1}), 0, 0, 0, api.ErrForm},
	}
}

func check(t *testing.T, call string, read func([]byte, int) (int, int, api.Errno), cases []readCase) {
	t.Helper()
	for _, c := range cases {
		n, next, err := read(c.b, c.at)
		if n != c.n || next != c.next || err != c.err {
			t.Errorf("%s: %s: %d, %d, %d, not %d, %d, %d", call, c.name, n, next, err, c.n, c.next, c.err)
		}
	}
}

func TestP3_2ReadUint(t *testing.T) {
	tail := bytes.Repeat([]byte{255}, 8)
	check(t, "ReadUint", pack.ReadUint, placeCases())
	check(t, "ReadUint", pack.ReadUint, []readCase{
		{"example", []byte{128, 0}, 0, 0, 0, api.ErrForm},
		{"300", []byte{172, 2}, 0, 300, 2, api.OK},
		{"300 between others", []byte{1, 172, 2, 200}, 1, 300, 3, api.OK},
		{"from its second byte on", []byte{172, 2}, 1, 2, 2, api.OK},
		{"127", []byte{127}, 0, 127, 1, api.OK},
		{"128", []byte{128, 1}, 0, 128, 2, api.OK},
		{"MaxInt", joined(tail, []byte{127}), 0, api.MaxInt, 9, api.OK},
		{"MaxInt, and more behind it", joined([]byte{4}, tail, []byte{127, 1}), 1, api.MaxInt, 10, api.OK},
		{"MaxInt + 1", joined(bytes.Repeat([]byte{128}, 9), []byte{1}), 0, 0, 0, api.ErrForm},
		{"MaxInt + 2", joined([]byte{7, 129}, bytes.Repeat([]byte{128}, 8), []byte{1}), 1, 0, 1, api.ErrForm},
		{"2^64 - 1", joined(tail, []byte{255, 1}), 0, 0, 0, api.ErrForm},
	})
}

func TestP3_2ReadInt(t *testing.T) {
	tail := bytes.Repeat([]byte{255}, 8)
	check(t, "ReadInt", pack.ReadInt, placeCases())
	check(t, "ReadInt", pack.ReadInt, []readCase{
		{"-1", []byte{1}, 0, -1, 1, api.OK},
		{"1", []byte{2}, 0, 1, 1, api.OK},
		{"63", []byte{126}, 0, 63, 1, api.OK},
		{"-64", []byte{127}, 0, -64, 1, api.OK},
		{"64 between others", []byte{0, 128, 1, 5}, 1, 64, 3, api.OK},
		{"127", []byte{254, 1}, 0, 127, 2, api.OK},
		{"128", []byte{128, 2}, 0, 128, 2, api.OK},
		{"written MaxInt", joined(tail, []byte{127}), 0, -1 << 62, 9, api.OK},
		{"written MaxInt + 1", joined(bytes.Repeat([]byte{128}, 9), []byte{1}), 0, 1 << 62, 10, api.OK},
		{"MaxInt", joined([]byte{254}, tail, []byte{1}), 0, api.MaxInt, 10, api.OK},
		{"MinInt", joined([]byte{255}, tail, []byte{1}), 0, api.MinInt, 10, api.OK},
		{"MinInt, and more behind it", joined([]byte{3, 255}, tail, []byte{1, 9}), 1, api.MinInt, 11, api.OK},
	})
}

// plainRead reads a number from 0 on as the document tells it, however great.
func plainRead(b []byte, at int) (*big.Int, int, bool) {
	n := new(big.Int)
	if at < 0 || at > len(b) {
		return n, at, false
	}
	for i, digit := range b[at:] {
		low := big.NewInt(int64(digit % 128))
		n.Add(n, low.Lsh(low, uint(7*i)))
		if digit < 128 {
			return n, at + i + 1, digit != 0 || i == 0
		}
	}
	return n, at, false
}

// plainSign turns back what signed makes of a number.
func plainSign(n *big.Int) int {
	half, odd := new(big.Int).DivMod(n, big.NewInt(2), new(big.Int))
	if odd.Sign() == 0 {
		return int(half.Int64())
	}
	return int(new(big.Int).Sub(big.NewInt(-1), half).Int64())
}

func checkRead(t *testing.T, b []byte, at int) {
	t.Helper()
	whole, behind, ok := plainRead(b, at)
	n, next, err := pack.ReadUint(b, at)
	if ok && whole.IsInt64() {
		if n != int(whole.Int64()) || next != behind || err != api.OK {
			t.Fatalf("ReadUint(%v, %d): %d, %d, %d, not %d, %d", b, at, n, next, err, whole, behind)
		}
	} else if n != 0 || next != at || err != api.ErrForm {
		t.Fatalf("ReadUint(%v, %d): %d, %d, %d, not ErrForm", b, at, n, next, err)
	}
	n, next, err = pack.ReadInt(b, at)
	if ok && whole.IsUint64() {
		if want := plainSign(whole); n != want || next != behind || err != api.OK {
			t.Fatalf("ReadInt(%v, %d): %d, %d, %d, not %d, %d", b, at, n, next, err, want, behind)
		}
	} else if n != 0 || next != at || err != api.ErrForm {
		t.Fatalf("ReadInt(%v, %d): %d, %d, %d, not ErrForm", b, at, n, next, err)
	}
}

func TestP3_2NumbersAreReadAsTold(t *testing.T) {
	for first := range 256 {
		for second := range 256 {
			checkRead(t, []byte{byte(first), byte(second)}, 0)
		}
	}
	source := rand.New(rand.NewSource(2))
	for range 20000 {
		b := someBytes(source, source.Intn(16))
		checkRead(t, b, source.Intn(len(b)+4)-2)
	}
	for i := range 64 {
		for _, last := range []byte{0, 1, 2, 3, 63, 64, 127} {
			checkRead(t, joined(bytes.Repeat([]byte{128}, i), []byte{last}), 0)
			checkRead(t, joined(bytes.Repeat([]byte{255}, i), []byte{last}), 0)
		}
	}
}

func TestP3_3ReadText(t *testing.T) {
	long := pack.Text(nil, strings.Repeat("y", 200))
	huge := pack.Uint(nil, api.MaxInt)
	cases := []struct {
		name     string
		b        []byte
		at, most int
		text     string
		next     int
		err      api.Errno
	}{
		{"example", []byte{2, 97, 98}, 0, 10, "ab", 3, api.OK},
		{"between others", []byte{9, 2, 97, 98, 9}, 1, 10, "ab", 4, api.OK},
		{"most just met", []byte{2, 97, 98}, 0, 2, "ab", 3, api.OK},
		{"most passed by one", []byte{2, 97, 98}, 0, 1, "", 0, api.ErrLong},
		{"most of 0", []byte{5, 2, 97, 98}, 1, 0, "", 1, api.ErrLong},
		{"most below 0", []byte{2, 97, 98}, 0, -1, "", 0, api.ErrLong},
		{"no text, most of 0", []byte{0}, 0, 0, "", 1, api.OK},
		{"no text, most of -1", []byte{0}, 0, -1, "", 0, api.ErrLong},
		{"no text, most of MinInt", []byte{4, 0}, 1, api.MinInt, "", 1, api.ErrLong},
		{"most of MaxInt", []byte{1, 97}, 0, api.MaxInt, "a", 2, api.OK},
		{"two digits, most just met", long, 0, 200, strings.Repeat("y", 200), 202, api.OK},
		{"two digits, most passed by one", long, 0, 199, "", 0, api.ErrLong},
		{"ends ahead of the last byte", []byte{3, 97, 98}, 0, 3, "", 0, api.ErrForm},
		{"ends ahead of the first byte", []byte{7, 1}, 1, 3, "", 1, api.ErrForm},
		{"ends, and too long", []byte{3, 97, 98}, 0, 2, "", 0, api.ErrLong},
		{"MaxInt bytes", huge, 0, api.MaxInt, "", 0, api.ErrForm},
		{"MaxInt bytes, most passed by one", huge, 0, api.MaxInt - 1, "", 0, api.ErrLong},
		{"no bytes", nil, 0, 9, "", 0, api.ErrForm},
		{"at of -1", []byte{0, 0}, -1, 9, "", -1, api.ErrForm},
		{"at of MinInt", []byte{0, 0}, api.MinInt, 9, "", api.MinInt, api.ErrForm},
		{"at the end", []byte{0, 0}, 2, 9, "", 2, api.ErrForm},
		{"at of MaxInt", []byte{0, 0}, api.MaxInt, 9, "", api.MaxInt, api.ErrForm},
		{"no number, most below 0", []byte{128, 0}, 0, -1, "", 0, api.ErrForm},
		{"how many is above MaxInt", pack.Int(nil, api.MaxInt), 0, -1, "", 0, api.ErrForm},
	}
	for _, c := range cases {
		text, next, err := pack.ReadText(c.b, c.at, c.most)
		if text != c.text || next != c.next || err != c.err {
			t.Errorf("%s: %q, %d, %d, not %q, %d, %d", c.name, text, next, err, c.text, c.next, c.err)
		}
	}
}

func TestP3_3ReadInts(t *testing.T) {
	huge := pack.Uint(nil, api.MaxInt)
	cases := []struct {
		name     string
		b        []byte
		at, most int
		l        []int
		next     int
		err      api.Errno
	}{
		{"a row", []byte{3, 0, 1, 216, 4}, 0, 10, []int{0, -1, 300}, 5, api.OK},
		{"between others", []byte{9, 2, 2, 1, 9}, 1, 10, []int{1, -1}, 4, api.OK},
		{"most just met", []byte{2, 2, 1}, 0, 2, []int{1, -1}, 3, api.OK},
		{"most passed by one", []byte{2, 2, 1}, 0, 1, nil, 0, api.ErrLong},
		{"most of 0", []byte{5, 2, 2, 1}, 1, 0, nil, 1, api.ErrLong},
		{"most below 0", []byte{2, 2, 1}, 0, -1, nil, 0, api.ErrLong},
		{"no row, most of 0", []byte{0, 7}, 0, 0, nil, 1, api.OK},
		{"no row, most of -1", []byte{0}, 0, -1, nil, 0, api.ErrLong},
		{"no row, most of MinInt", []byte{4, 0}, 1, api.MinInt, nil, 1, api.ErrLong},
		{"the ends", pack.Ints(nil, []int{api.MinInt, api.MaxInt}), 0, 2, []int{api.MinInt, api.MaxInt}, 21, api.OK},
		{"the first is none", []byte{6, 2, 128, 0, 1}, 1, 2, nil, 1, api.ErrForm},
		{"the second is none", []byte{3, 2, 129, 0, 1}, 0, 3, nil, 0, api.ErrForm},
		{"the last is none", []byte{2, 2, 128, 128, 0}, 0, 2, nil, 0, api.ErrForm},
		{"a later one is above 2^64 - 1", joined([]byte{2, 2}, bytes.Repeat([]byte{128}, 9), []byte{2}), 0, 2, nil, 0, api.ErrForm},
		{"ends ahead of the first", []byte{1}, 0, 1, nil, 0, api.ErrForm},
		{"ends ahead of the last", []byte{8, 3, 0, 1}, 1, 3, nil, 1, api.ErrForm},
		{"ends within the last", []byte{2, 0, 129}, 0, 2, nil, 0, api.ErrForm},
		{"too many, and one is none", []byte{2, 128, 0}, 0, 1, nil, 0, api.ErrLong},
		{"MaxInt numbers", joined(huge, []byte{1, 2, 3}), 0, api.MaxInt, nil, 0, api.ErrForm},
		{"MaxInt numbers, most passed by one", huge, 0, api.MaxInt - 1, nil, 0, api.ErrLong},
		{"no bytes", nil, 0, 9, nil, 0, api.ErrForm},
		{"at of -1", []byte{0, 0}, -1, 9, nil, -1, api.ErrForm},
		{"at of MinInt", []byte{0, 0}, api.MinInt, 9, nil, api.MinInt, api.ErrForm},
		{"at the end", []byte{0, 0}, 2, 9, nil, 2, api.ErrForm},
		{"at of MaxInt", []byte{0, 0}, api.MaxInt, 9, nil, api.MaxInt, api.ErrForm},
		{"no number, most below 0", []byte{128, 0}, 0, -1, nil, 0, api.ErrForm},
		{"how many is above MaxInt", pack.Int(nil, api.MaxInt), 0, -1, nil, 0, api.ErrForm},
	}
	for _, c := range cases {
		l, next, err := pack.ReadInts(c.b, c.at, c.most)
		if !slices.Equal(l, c.l) || next != c.next || err != c.err {
			t.Errorf("%s: %v, %d, %d, not %v, %d, %d", c.name, l, next, err, c.l, c.next, c.err)
		}
	}
}

// guarded answers bytes with spare room behind them, and a check that neither
// has changed.
func guarded(t *testing.T, b ...byte) ([]byte, func(string)) {
	whole := joined(b, bytes.Repeat([]byte{77}, 64))
	before := bytes.Clone(whole)
	return whole[:len(b)], func(call string) {
		t.Helper()
		if !bytes.Equal(whole, before) {
			t.Errorf("%s turned %v into %v", call, before, whole)
		}
	}
}

func TestP3_4ArgumentsAreNotChanged(t *testing.T) {
	for _, start := range [][]byte{{}, {1, 2, 3}} {
		b, check := guarded(t, start...)
		pack.Uint(b, api.MaxInt)
		check("Uint")
		pack.Int(b, api.MinInt)
		check("Int")
		pack.Text(b, "some text")
		check("Text")
		pack.Text(b, "")
		check("Text of nothing")
		pack.Ints(b, nil)
		check("Ints of nothing")

		row := []int{4, -5, 6, 70, 71, 72}
		pack.Ints(b, row[:3])
		check("Ints")
		if !slices.Equal(row, []int{4, -5, 6, 70, 71, 72}) {
			t.Errorf("the row is %v by now", row)
		}
	}
	b, check := guarded(t, 3, 2, 4, 128, 0)
	for at := -1; at < 7; at++ {
		pack.ReadUint(b, at)
		pack.ReadInt(b, at)
		pack.ReadText(b, at, 3)
		pack.ReadInts(b, at, 3)
	}
	check("a read")
}

// spoil writes over all that a list has, its spare room too.
func spoil[T any](l []T, with T) {
	l = l[:cap(l)]
	for i := range l {
		l[i] = with
	}
}

func TestP3_4WrittenBytesAreNewMemory(t *testing.T) {
	writes := []func([]byte) []byte{
		func(b []byte) []byte { return pack.Uint(b, 5) },
		func(b []byte) []byte { return pack.Uint(b, api.MaxInt) },
		func(b []byte) []byte { return pack.Int(b, -5) },
		func(b []byte) []byte { return pack.Int(b, api.MinInt) },
		func(b []byte) []byte { return pack.Text(b, "") },
		func(b []byte) []byte { return pack.Text(b, "a text") },
		func(b []byte) []byte { return pack.Ints(b, nil) },
		func(b []byte) []byte { return pack.Ints(b, []int{1, api.MaxInt, 3}) },
	}
	for i, write := range writes {
		for _, start := range [][]byte{{}, {1, 2, 3}} {
			b, check := guarded(t, start...)
			first, second := write(b), write(b)
			want := bytes.Clone(second)
			spoil(first, 99)
			check("what was written and then changed")
			if !bytes.Equal(second, want) {
				t.Errorf("write %d: the second is %v by now, not %v", i, second, want)
			}
			spoil(b, 55)
			if !bytes.Equal(second, want) {
				t.Errorf("write %d: with its argument it became %v, not %v", i, second, want)
			}
		}
	}
}

func TestP3_4ReadAnswersAreNewMemory(t *testing.T) {
	b := []byte{2, 97, 98}
	text, _, _ := pack.ReadText(b, 0, 2)
	first, _, _ := pack.ReadInts(b, 0, 2)
	second, _, _ := pack.ReadInts(b, 0, 2)
	clear(b)
	if text != "ab" {
		t.Errorf("the text is %q by now", text)
	}
	spoil(first, 9)
	if !slices.Equal(second, []int{-49, 49}) {
		t.Errorf("the row is %v by now", second)
	}
}

func TestP3_5WrittenNumbersAreRead(t *testing.T) {
	source := rand.New(rand.NewSource(3))
	for _, n := range numbers() {
		ahead, behind := someBytes(source, source.Intn(5)), someBytes(source, source.Intn(5))
		at := len(ahead)
		for _, tail := range [][]byte{nil, {0}, {127}, {128}, {255}, behind} {
			b := pack.Uint(ahead, n)
			got, next, err := pack.ReadUint(joined(b, tail), at)
			if got != max(n, 0) || next != len(b) || err != api.OK {
				t.Errorf("Uint(%d) between %v and %v: %d, %d, %d", n, ahead, tail, got, next, err)
			}
			b = pack.Int(ahead, n)
			got, next, err = pack.ReadInt(joined(b, tail), at)
			if got != n || next != len(b) || err != api.OK {
				t.Errorf("Int(%d) between %v and %v: %d, %d, %d", n, ahead, tail, got, next, err)
			}
		}
	}
}

func TestP3_5WrittenTextsAndRowsAreRead(t *testing.T) {
	source := rand.New(rand.NewSource(4))
	list := numbers()
	for size := range 300 {
		ahead, behind := someBytes(source, source.Intn(5)), someBytes(source, source.Intn(5))
		s := string(someBytes(source, size))
		b := pack.Text(ahead, s)
		text, next, err := pack.ReadText(joined(b, behind), len(ahead), size)
		if text != s || next != len(b) || err != api.OK {
			t.Fatalf("a text of %d bytes: %q, %d, %d, not %q, %d", size, text, next, err, s, len(b))
		}
		l := make([]int, size)
		for i := range l {
			l[i] = list[source.Intn(len(list))]
		}
		b = pack.Ints(ahead, l)
		row, next, err := pack.ReadInts(joined(b, behind), len(ahead), size)
		if !slices.Equal(row, l) || next != len(b) || err != api.OK {
			t.Fatalf("a row of %d: %v, %d, %d, not %v, %d", size, row, next, err, l, len(b))
		}
	}
}

// checkAlike writes again what can be read in b.
func checkAlike(t *testing.T, b []byte) {
	t.Helper()
	if n, next, err := pack.ReadUint(b, 0); err == api.OK && !bytes.Equal(pack.Uint(nil, n), b[:next]) {
		t.Fatalf("%v is read as %d, written as %v", b[:next], n, pack.Uint(nil, n))
	}
	if n, next, err := pack.ReadInt(b, 0); err == api.OK && !bytes.Equal(pack.Int(nil, n), b[:next]) {
		t.Fatalf("%v is read as %d, written as %v", b[:next], n, pack.Int(nil, n))
	}
	if s, next, err := pack.ReadText(b, 0, len(b)); err == api.OK && !bytes.Equal(pack.Text(nil, s), b[:next]) {
		t.Fatalf("%v is read as %q, written as %v", b[:next], s, pack.Text(nil, s))
	}
	if l, next, err := pack.ReadInts(b, 0, len(b)); err == api.OK && !bytes.Equal(pack.Ints(nil, l), b[:next]) {
		t.Fatalf("%v is read as %v, written as %v", b[:next], l, pack.Ints(nil, l))
	}
}

func TestP3_5WhatIsReadIsWrittenAlike(t *testing.T) {
	for first := range 256 {
		checkAlike(t, []byte{byte(first)})
		for second := range 256 {
			checkAlike(t, []byte{byte(first), byte(second)})
			checkAlike(t, []byte{128, byte(first), byte(second)})
		}
	}
	source := rand.New(rand.NewSource(5))
	for range 50000 {
		checkAlike(t, someBytes(source, source.Intn(16)))
		checkAlike(t, joined([]byte{byte(source.Intn(4))}, someBytes(source, source.Intn(40))))
	}
}

func TestP3_6NoNumberBeginsAnother(t *testing.T) {
	list := numbers()
	for n := range 600 {
		list = append(list, n)
	}
	for _, a := range list {
		for _, b := range list {
			one, other := pack.Uint(nil, a), pack.Uint(nil, b)
			if max(a, 0) != max(b, 0) && bytes.HasPrefix(other, one) {
				t.Fatalf("Uint(%d), %v, begins Uint(%d), %v", a, one, b, other)
			}
			one, other = pack.Int(nil, a), pack.Int(nil, b)
			if a != b && bytes.HasPrefix(other, one) {
				t.Fatalf("Int(%d), %v, begins Int(%d), %v", a, one, b, other)
			}
		}
	}
}
