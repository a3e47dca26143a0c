package draw_test

import (
	"math/rand"
	"slices"
	"testing"

	"barrow/api"
	"barrow/draw"
)

// words is how many words there are: W in the document.
const words = 1 << 32

// fed answers a stream in which just these words wait.
func fed(t *testing.T, list ...int) *draw.Stream {
	t.Helper()
	x := draw.New()
	if err := x.Feed(list...); err != api.OK {
		t.Fatalf("Feed of %d words: %d", len(list), err)
	}
	return x
}

// drain takes all words that wait: Below(W) is the next word itself.
func drain(x *draw.Stream) []int {
	var list []int
	for x.Left() > 0 {
		word, ok := x.Below(words)
		if !ok {
			break
		}
		list = append(list, word)
	}
	return list
}

// wantWaiting empties the stream.
func wantWaiting(t *testing.T, x *draw.Stream, want ...int) {
	t.Helper()
	if x.Left() != len(want) {
		t.Errorf("Left: %d, not %d", x.Left(), len(want))
	}
	if got := drain(x); !slices.Equal(got, want) {
		t.Errorf("waiting: %v, not %v", got, want)
	}
}

// someWords are drawn at a fixed seed; one of four is near the end, where
// draws pass over words.
func someWords(source *rand.Rand, count int) []int {
	list := make([]int, count)
	for i := range list {
		if list[i] = source.Intn(words); source.Intn(4) == 0 {
			list[i] = words - 1 - source.Intn(3)
		}
	}
	return list
}

func someBelow(source *rand.Rand) int {
	edges := []int{1, 2, 3, 5, 6, 7, 100, words/2 - 1, words / 2, words/2 + 1, words - 1, words}
	if i := source.Intn(len(edges) + 4); i < len(edges) {
		return edges[i]
	}
	return 1 + source.Intn(words)
}

// plainFair says the document's words on a fair draw one by one: the first
// number that is less than the bound, and only then whether all it uses are
// words.
func plainFair(list []int, n int) (int, int, bool) {
	if n < 1 || n > words {
		return 0, 0, false
	}
	at := slices.IndexFunc(list, func(word int) bool { return word < words-(words%n) })
	if at < 0 {
		return 0, 0, false
	}
	for _, word := range list[:at+1] {
		if word < 0 || word > words-1 {
			return 0, 0, false
		}
	}
	return list[at] % n, at + 1, true
}

func TestP2_1Fair(t *testing.T) {
	cases := []struct {
		name        string
		list        []int
		n           int
		drawn, used int
		ok          bool
	}{
		{"example", []int{words - 1, 1}, 3, 1, 2, true},
		{"first word", []int{7, 8}, 5, 2, 1, true},
		{"n of 0", []int{7}, 0, 0, 0, false},
		{"n of -1", []int{7}, -1, 0, 0, false},
		{"n of MinInt", []int{7}, api.MinInt, 0, 0, false},
		{"n of 1", []int{7}, 1, 0, 1, true},
		{"n of 1, last word", []int{words - 1}, 1, 0, 1, true},
		{"n of W", []int{7}, words, 7, 1, true},
		{"n of W, last word", []int{words - 1}, words, words - 1, 1, true},
		{"n of W, word 0", []int{0}, words, 0, 1, true},
		{"n of W + 1", []int{7}, words + 1, 0, 0, false},
		{"n of MaxInt", []int{7}, api.MaxInt, 0, 0, false},
		{"no words", nil, 5, 0, 0, false},
		{"none", []int{}, 1, 0, 0, false},
		{"all passed over", []int{words - 1, words - 1}, 3, 0, 0, false},
		{"ahead of the last word", []int{words - 2}, 3, 2, 1, true},
		{"n of W - 1, last draw", []int{words - 2}, words - 1, words - 2, 1, true},
		{"n of W - 1, passed over", []int{words - 1, 4}, words - 1, 4, 2, true},
		{"n above half, last draw", []int{words / 2}, words/2 + 1, words / 2, 1, true},
		{"n above half, passed over", []int{words/2 + 1, words - 1, 9}, words/2 + 1, 9, 3, true},
		{"n of half, last word", []int{words - 1}, words / 2, words/2 - 1, 1, true},
		{"below the words", []int{-1}, 5, 0, 0, false},
		{"below the words, then one", []int{-1, 7}, 5, 0, 0, false},
		{"above the words", []int{words}, 1, 0, 0, false},
		{"above the words, then one", []int{words, 7}, 5, 0, 0, false},
		{"MinInt", []int{api.MinInt, 7}, 5, 0, 0, false},
		{"MaxInt", []int{api.MaxInt, 7}, words, 0, 0, false},
		{"passed over, then below the words", []int{words - 1, -1, 1}, 3, 0, 0, false},
		{"passed over, then above the words", []int{words - 1, words, 1}, 3, 0, 0, false},
		{"below the words behind the draw", []int{7, -1}, 5, 2, 1, true},
		{"above the words behind the draw", []int{words - 1, 1, words}, 3, 1, 2, true},
		{"no word and a wrong n", []int{-1}, 0, 0, 0, false},
	}
	for _, c := range cases {
		drawn, used, ok := draw.Fair(c.list, c.n)
		if drawn != c.drawn || used != c.used || ok != c.ok {
			t.Errorf("%s: Fair(%v, %d): %d, %d, %t, not %d, %d, %t", c.name, c.list, c.n, drawn, used, ok, c.drawn, c.used, c.ok)
		}
	}
}

func TestP2_1FairIsAsTheDocumentSays(t *testing.T) {
	source := rand.New(rand.NewSource(1))
	for range 20000 {
		list := someWords(source, source.Intn(6))
		if len(list) > 0 && source.Intn(3) == 0 {
			wrong := []int{-1, words, api.MinInt, api.MaxInt}
			list[source.Intn(len(list))] = wrong[source.Intn(len(wrong))]
		}
		n := someBelow(source)
		drawn, used, ok := draw.Fair(list, n)
		if d, u, o := plainFair(list, n); drawn != d || used != u || ok != o {
			t.Fatalf("Fair(%v, %d): %d, %d, %t, not %d, %d, %t", list, n, drawn, used, ok, d, u, o)
		}
	}
}

// Every draw below n is met equally often only if the words that are not
// passed over end just behind a draw of n - 1.
func TestP2_1FairWordsEndBehindTheLastDraw(t *testing.T) {
	source := rand.New(rand.NewSource(2))
	for range 2000 {
		n := someBelow(source)
		end := words / n * n
		if drawn, _, ok := draw.Fair([]int{end - 1}, n); drawn != n-1 || !ok {
			t.Fatalf("Fair(%d, %d): %d, %t", end-1, n, drawn, ok)
		}
		if end == words {
			continue
		}
		if drawn, _, ok := draw.Fair([]int{end}, n); drawn != 0 || ok {
			t.Fatalf("Fair(%d, %d): %d, %t", end, n, drawn, ok)
		}
	}
}

func TestP2_2FeedTellsWhatIsNoWord(t *testing.T) {
	cases := []struct {
		list []int
		want api.Errno
	}{
		{nil, api.OK},
		{[]int{0}, api.OK},
		{[]int{words - 1}, api.OK},
		{[]int{-1}, api.ErrArg},
		{[]int{words}, api.ErrArg},
		{[]int{api.MinInt}, api.ErrArg},
		{[]int{api.MaxInt}, api.ErrArg},
		{[]int{1, 2, -1}, api.ErrArg},
		{[]int{words, 1, 2}, api.ErrArg},
		{[]int{1, words, 2}, api.ErrArg},
	}
	for _, c := range cases {
		x := fed(t, 5, 6)
		if got := x.Feed(c.list...); got != c.want {
			t.Errorf("Feed(%v): %d, not %d", c.list, got, c.want)
		}
		want := []int{5, 6}
		if c.want == api.OK {
			want = append(want, c.list...)
		}
		wantWaiting(t, x, want...)
	}
}

func TestP2_2FeedIsFull(t *testing.T) {
	most := someWords(rand.New(rand.NewSource(3)), api.MaxWords)
	x := draw.New()
	if err := x.Feed(append(slices.Clone(most), 1)...); err != api.ErrFull || x.Left() != 0 {
		t.Errorf("one more at once: %d, %d wait", err, x.Left())
	}
	if err := x.Feed(most...); err != api.OK || x.Left() != api.MaxWords {
		t.Errorf("MaxWords at once: %d, %d wait", err, x.Left())
	}
	if err := x.Feed(1); err != api.ErrFull {
		t.Errorf("one more behind them: %d", err)
	}
	if err := x.Feed(); err != api.OK {
		t.Errorf("none behind them: %d", err)
	}
	if err := x.Feed(-1); err != api.ErrArg {
		t.Errorf("no word, and no room: %d", err)
	}
	if err := x.Feed(1, 2, words); err != api.ErrArg {
		t.Errorf("no word behind words without room: %d", err)
	}
	wantWaiting(t, x, most...)
}

func TestP2_2FeedHasRoomAgain(t *testing.T) {
	most := make([]int, api.MaxWords-1)
	x := fed(t, most...)
	if err := x.Feed(1, 2); err != api.ErrFull || x.Left() != api.MaxWords-1 {
		t.Errorf("two into room for one: %d, %d wait", err, x.Left())
	}
	if err := x.Feed(3); err != api.OK || x.Left() != api.MaxWords {
		t.Errorf("one into room for one: %d, %d wait", err, x.Left())
	}
	for range 3 {
		x.Below(words)
	}
	if err := x.Feed(4, 5, 6, 7); err != api.ErrFull || x.Left() != api.MaxWords-3 {
		t.Errorf("four into room for three: %d, %d wait", err, x.Left())
	}
	if err := x.Feed(4, 5, 6); err != api.OK || x.Left() != api.MaxWords {
		t.Errorf("three into room for three: %d, %d wait", err, x.Left())
	}
	list := drain(x)
	if got := list[len(list)-5:]; !slices.Equal(got, []int{0, 3, 4, 5, 6}) {
		t.Errorf("the last of them: %v", got)
	}
}

func TestP2_2LeftOfANewStream(t *testing.T) {
	x, y := draw.New(), draw.New()
	if x == nil || y == nil || x == y {
		t.Fatal("New")
	}
	if err := x.Feed(1, 2, 3); err != api.OK || x.Left() != 3 || y.Left() != 0 {
		t.Errorf("%d: %d and %d wait", err, x.Left(), y.Left())
	}
}

func TestP2_3Below(t *testing.T) {
	cases := []struct {
		name  string
		list  []int
		n     int
		drawn int
		ok    bool
		left  []int
	}{
		{"example", []int{7, 8}, 5, 2, true, []int{8}},
		{"one passed over", []int{words - 1, 1, 9}, 3, 1, true, []int{9}},
		{"the last that waits", []int{words - 1}, words, words - 1, true, nil},
		{"n of 1 uses a word", []int{4, 5}, 1, 0, true, []int{5}},
		{"n of 0", []int{7, 8}, 0, 0, false, []int{7, 8}},
		{"n of -1", []int{7, 8}, -1, 0, false, []int{7, 8}},
		{"n of W + 1", []int{7, 8}, words + 1, 0, false, []int{7, 8}},
		{"n of MinInt", []int{7, 8}, api.MinInt, 0, false, []int{7, 8}},
		{"n of MaxInt", []int{7, 8}, api.MaxInt, 0, false, []int{7, 8}},
		{"none waits", nil, 5, 0, false, nil},
		{"all passed over", []int{words - 1, words - 1}, 3, 0, false, []int{words - 1, words - 1}},
	}
	for _, c := range cases {
		x := fed(t, c.list...)
		if drawn, ok := x.Below(c.n); drawn != c.drawn || ok != c.ok {
			t.Errorf("%s: Below(%d): %d, %t, not %d, %t", c.name, c.n, drawn, ok, c.drawn, c.ok)
		}
		wantWaiting(t, x, c.left...)
	}
}

func TestP2_3BelowGoesOnOnceFed(t *testing.T) {
	x := fed(t, words-1)
	if _, ok := x.Below(3); ok {
		t.Error("a draw out of a word that is passed over")
	}
	if err := x.Feed(5, 6); err != api.OK {
		t.Fatal(err)
	}
	if drawn, ok := x.Below(3); drawn != 2 || !ok {
		t.Errorf("%d, %t", drawn, ok)
	}
	wantWaiting(t, x, 6)
}

func TestP2_4Pick(t *testing.T) {
	const over = api.MaxInt
	cases := []struct {
		name    string
		list    []int
		weights []int
		place   int
		ok      bool
		left    []int
	}{
		{"example", []int{5}, []int{0, 4, 3}, 2, true, nil},
		{"first draw", []int{0, 9}, []int{0, 4, 3}, 1, true, []int{9}},
		{"last of the first", []int{3}, []int{0, 4, 3}, 1, true, nil},
		{"first of the next", []int{4}, []int{0, 4, 3}, 2, true, nil},
		{"round again", []int{7}, []int{0, 4, 3}, 1, true, nil},
		{"a weight of 0 between", []int{2}, []int{2, 0, 0, 1, 0}, 3, true, nil},
		{"a weight of 0 at the end", []int{words - 1, 1}, []int{1, 2, 0}, 1, true, nil},
		{"one weight", []int{8, 9}, []int{1}, 0, true, []int{9}},
		{"a sum of W, one weight", []int{words - 1}, []int{words}, 0, true, nil},
		{"a sum of W, the last", []int{words - 1}, []int{words - 1, 0, 1}, 2, true, nil},
		{"a sum of W, ahead of the last", []int{words - 2}, []int{words - 1, 0, 1}, 0, true, nil},
		{"a sum of W + 1", []int{7}, []int{words - 1, 1, 1}, 0, false, []int{7}},
		{"a weight of W + 1", []int{7}, []int{words + 1}, 0, false, []int{7}},
		{"a sum of W, and one more", []int{7}, []int{words, 1}, 0, false, []int{7}},
		{"a sum of 0", []int{7}, []int{0, 0}, 0, false, []int{7}},
		{"no weights", []int{7}, nil, 0, false, []int{7}},
		{"a weight below 0", []int{7}, []int{4, -1, 3}, 0, false, []int{7}},
		{"a weight below 0 first", []int{7}, []int{-1, 4}, 0, false, []int{7}},
		{"a weight below 0 last", []int{7}, []int{4, -1}, 0, false, []int{7}},
		{"a weight of MinInt", []int{7}, []int{5, api.MinInt}, 0, false, []int{7}},
		{"a sum that runs over to 0", []int{7}, []int{over, over, 2}, 0, false, []int{7}},
		{"a sum that runs over to 5", []int{7}, []int{over, 1, over, 1, 5}, 0, false, []int{7}},
		{"a sum that runs over behind a small one", []int{7}, []int{1, over, over, 6}, 0, false, []int{7}},
		{"a sum that runs over at MinInt", []int{7}, []int{api.MinInt, api.MinInt, 5}, 0, false, []int{7}},
		{"none waits", nil, []int{1, 2}, 0, false, nil},
		{"all passed over", []int{words - 1}, []int{1, 2}, 0, false, []int{words - 1}},
	}
	for _, c := range cases {
		x := fed(t, c.list...)
		if place, ok := x.Pick(c.weights); place != c.place || ok != c.ok {
			t.Errorf("%s: Pick(%v): %d, %t, not %d, %t", c.name, c.weights, place, ok, c.place, c.ok)
		}
		wantWaiting(t, x, c.left...)
	}
}

// Each draw below the sum once: a place is told as often as its weight says.
func TestP2_4PickIsAsLikelyAsTheWeights(t *testing.T) {
	weights := []int{3, 0, 1, 5, 0, 2}
	told := make([]int, len(weights))
	for word := range 11 {
		place, ok := fed(t, word).Pick(weights)
		if !ok {
			t.Fatalf("word %d: nothing", word)
		}
		told[place]++
	}
	if !slices.Equal(told, weights) {
		t.Errorf("told %v", told)
	}
}

func TestP2_4Deal(t *testing.T) {
	cases := []struct {
		name  string
		list  []int
		n     int
		dealt []int
		ok    bool
		left  []int
	}{
		{"n of -1", []int{7}, -1, nil, false, []int{7}},
		{"n of MinInt", []int{7}, api.MinInt, nil, false, []int{7}},
		{"n of MaxInt", []int{7}, api.MaxInt, nil, false, []int{7}},
		{"n of 0", []int{7}, 0, nil, true, []int{7}},
		{"n of 0, none waits", nil, 0, nil, true, nil},
		{"n of 1", []int{7}, 1, []int{0}, true, []int{7}},
		{"n of 1, none waits", nil, 1, []int{0}, true, nil},
		{"n of 2, kept", []int{1, 7}, 2, []int{0, 1}, true, []int{7}},
		{"n of 2, changed", []int{4, 7}, 2, []int{1, 0}, true, []int{7}},
		{"n of 2, none waits", nil, 2, nil, false, nil},
		{"all with the first", []int{0, 0, 0}, 4, []int{1, 2, 3, 0}, true, nil},
		{"each with itself", []int{3, 2, 1, 9}, 4, []int{0, 1, 2, 3}, true, []int{9}},
		{"each with another", []int{1, 0, 0}, 4, []int{3, 2, 0, 1}, true, nil},
		{"one passed over", []int{words - 1, 0, 1, 8}, 3, []int{2, 1, 0}, true, []int{8}},
		{"the second draw fails", []int{5, 6}, 4, nil, false, []int{5, 6}},
		{"passed over, then too few", []int{words - 1, 0}, 3, nil, false, []int{words - 1, 0}},
	}
	for _, c := range cases {
		x := fed(t, c.list...)
		if dealt, ok := x.Deal(c.n); !slices.Equal(dealt, c.dealt) || ok != c.ok {
			t.Errorf("%s: Deal(%d): %v, %t, not %v, %t", c.name, c.n, dealt, ok, c.dealt, c.ok)
		}
		wantWaiting(t, x, c.left...)
	}
}

func TestP2_4DealIsAtMost256(t *testing.T) {
	list := make([]int, 300)
	x := fed(t, list...)
	if dealt, ok := x.Deal(257); len(dealt) != 0 || ok || x.Left() != 300 {
		t.Errorf("257: %d dealt, %t, %d wait", len(dealt), ok, x.Left())
	}
	if dealt, ok := x.Deal(256); len(dealt) != 256 || !ok || x.Left() != 45 {
		t.Errorf("256: %d dealt, %t, %d wait", len(dealt), ok, x.Left())
	}
	short := fed(t, list[:254]...)
	if dealt, ok := short.Deal(256); len(dealt) != 0 || ok || short.Left() != 254 {
		t.Errorf("256 out of 254 words: %d dealt, %t, %d wait", len(dealt), ok, short.Left())
	}
}

// plainDeal has the places changed by draws of a second stream.
func plainDeal(x *draw.Stream, n int) ([]int, bool) {
	list := make([]int, n)
	for i := range list {
		list[i] = i
	}
	for i := n - 1; i >= 1; i-- {
		other, ok := x.Below(i + 1)
		if !ok {
			return nil, false
		}
		list[i], list[other] = list[other], list[i]
	}
	return list, true
}

func TestP2_4DealIsOfBelow(t *testing.T) {
	source := rand.New(rand.NewSource(4))
	for range 500 {
		n := source.Intn(257)
		list := someWords(source, source.Intn(500))
		x, y := fed(t, list...), fed(t, list...)
		dealt, ok := x.Deal(n)
		want, wantOk := plainDeal(y, n)
		if !slices.Equal(dealt, want) || ok != wantOk {
			t.Fatalf("Deal(%d) of %d words: %v, %t, not %v, %t", n, len(list), dealt, ok, want, wantOk)
		}
		if ok {
			wantWaiting(t, x, drain(y)...)
		} else {
			wantWaiting(t, x, list...)
		}
	}
}

// guarded answers a list with spare room behind it, and a check that neither
// has changed.
func guarded(t *testing.T, list ...int) ([]int, func(string)) {
	whole := append(slices.Clone(list), -71, -72, -73, -74)
	before := slices.Clone(whole)
	return whole[:len(list)], func(call string) {
		t.Helper()
		if !slices.Equal(whole, before) {
			t.Errorf("%s turned %v into %v", call, before, whole)
		}
	}
}

func TestP2_5ArgumentsAreNotChanged(t *testing.T) {
	list, check := guarded(t, words-1, 1, 2, 3, 4, 5)
	draw.Fair(list, 3)
	check("Fair")

	x := draw.New()
	if err := x.Feed(list...); err != api.OK {
		t.Fatal(err)
	}
	if err := x.Feed(6, 7, 8); err != api.OK {
		t.Fatal(err)
	}
	check("Feed")
	weights, checkWeights := guarded(t, 0, 4, 3)
	x.Pick(weights)
	checkWeights("Pick")
	x.Below(3)
	x.Deal(3)
	check("a draw")
}

func TestP2_5ArgumentsAreNotKept(t *testing.T) {
	list := []int{1, 2, 3, 4}
	x := fed(t, list...)
	clear(list)
	wantWaiting(t, x, 1, 2, 3, 4)

	empty := fed(t)
	more := []int{5, 6}
	if err := empty.Feed(more...); err != api.OK {
		t.Fatal(err)
	}
	more[0] = 9
	wantWaiting(t, empty, 5, 6)
}

func TestP2_5AnswersAreNewMemory(t *testing.T) {
	x := fed(t, 0, 0, 0, 0, 8, 9)
	first, _ := x.Deal(3)
	second, _ := x.Deal(3)
	if !slices.Equal(first, second) {
		t.Fatalf("%v, %v", first, second)
	}
	want := slices.Clone(second)
	spoil := first[:cap(first)]
	for i := range spoil {
		spoil[i] = -1
	}
	if !slices.Equal(second, want) {
		t.Errorf("the second deal is %v by now, not %v", second, want)
	}
	wantWaiting(t, x, 8, 9)
}

// feedParts feeds a list bit by bit.
func feedParts(t *testing.T, x *draw.Stream, source *rand.Rand, list []int) {
	t.Helper()
	for len(list) > 0 {
		part := source.Intn(len(list) + 1)
		if err := x.Feed(list[:part]...); err != api.OK {
			t.Fatal(err)
		}
		list = list[part:]
	}
}

func TestP2_6PartsDrawAsAtOnce(t *testing.T) {
	source := rand.New(rand.NewSource(5))
	for range 200 {
		first, second := someWords(source, 60), someWords(source, 200)
		x := fed(t, append(slices.Clone(first), second...)...)
		y := draw.New()
		feedParts(t, y, source, first)
		for step := range 20 {
			if step == 8 {
				feedParts(t, y, source, second)
			}
			n := someBelow(source)
			before := y.Left()
			drawn, ok := y.Below(n)
			if !ok && step < 8 {
				// what is fed later may be what it lacks
				if y.Left() != before {
					t.Fatalf("%d waited, %d wait", before, y.Left())
				}
				continue
			}
			if want, wantOk := x.Below(n); drawn != want || ok != wantOk {
				t.Fatalf("Below(%d): %d, %t in parts, %d, %t at once", n, drawn, ok, want, wantOk)
			}
		}
		weights := []int{2, 0, source.Intn(5), 1}
		place, ok := y.Pick(weights)
		if want, wantOk := x.Pick(weights); place != want || ok != wantOk {
			t.Fatalf("Pick(%v): %d, %t in parts, %d, %t at once", weights, place, ok, want, wantOk)
		}
		dealt, ok := y.Deal(20)
		if want, wantOk := x.Deal(20); !slices.Equal(dealt, want) || ok != wantOk {
			t.Fatalf("Deal: %v, %t in parts, %v, %t at once", dealt, ok, want, wantOk)
		}
		wantWaiting(t, y, drain(x)...)
	}
}

func TestP2_6WhatWaitsGetsLessByWhatIsUsed(t *testing.T) {
	source := rand.New(rand.NewSource(6))
	for range 5000 {
		list := someWords(source, source.Intn(6))
		n := someBelow(source)
		x := fed(t, list...)
		fair, used, fairOk := draw.Fair(list, n)
		drawn, ok := x.Below(n)
		if drawn != fair || ok != fairOk || drawn < 0 || drawn >= n {
			t.Fatalf("%v: Below(%d): %d, %t, Fair: %d, %t", list, n, drawn, ok, fair, fairOk)
		}
		wantWaiting(t, x, list[used:]...)
	}
}

func TestP2_7DealHasEachNumberOnce(t *testing.T) {
	source := rand.New(rand.NewSource(7))
	for n := range 257 {
		x := fed(t, someWords(source, 2000)...)
		dealt, ok := x.Deal(n)
		if !ok || len(dealt) != n {
			t.Fatalf("Deal(%d): %d dealt, %t", n, len(dealt), ok)
		}
		slices.Sort(dealt)
		for i, number := range dealt {
			if number != i {
				t.Fatalf("Deal(%d), sorted: %v", n, dealt)
			}
		}
	}
}

func TestP2_7PickNeverTellsAWeightOf0(t *testing.T) {
	source := rand.New(rand.NewSource(8))
	for range 5000 {
		weights := make([]int, source.Intn(8))
		sum := 0
		for i := range weights {
			weights[i] = source.Intn(4) * source.Intn(2)
			sum += weights[i]
		}
		x := fed(t, someWords(source, 20)...)
		place, ok := x.Pick(weights)
		if ok != (sum > 0) {
			t.Fatalf("Pick(%v): %d, %t", weights, place, ok)
		}
		if ok && weights[place] == 0 {
			t.Fatalf("Pick(%v): %d", weights, place)
		}
	}
}
