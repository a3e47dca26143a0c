package cells_test

import (
	"maps"
	"math/rand"
	"slices"
	"testing"

	"barrow/api"
	"barrow/cells"
	"barrow/grid"
)

// last is the last number of a map's side.
const last = api.MaxSide - 1

// root is the greatest number whose square is no greater than MaxInt.
const root = 3037000499

// tile spells a place short.
func tile(x, y int) api.Pos { return api.Pos{X: x, Y: y} }

// plain is an index as the document tells it: where each unit is.
type plain map[int]api.Pos

func (p plain) ids() []int { return slices.Sorted(maps.Keys(p)) }

// near asks each unit.
func (p plain) near(at api.Pos, r int) []int {
	var list []int
	for _, id := range p.ids() {
		if grid.Near(at, p[id], r) {
			list = append(list, id)
		}
	}
	return list
}

func (p plain) closest(at api.Pos, not int) (int, bool) {
	best, found := 0, false
	for _, id := range p.ids() {
		if id != not && (!found || grid.Square(at, p[id]) < grid.Square(at, p[best])) {
			best, found = id, true
		}
	}
	return best, found
}

// watched is an index each of whose calls is held against a plain one.
type watched struct {
	t *testing.T
	x *cells.Index
	p plain
}

func newWatched(t *testing.T) watched {
	t.Helper()
	w := watched{t, cells.New(), plain{}}
	w.holds()
	return w
}

// put puts a unit where one may be.
func (w watched) put(id int, at api.Pos) {
	w.t.Helper()
	if !w.x.Put(id, at) {
		w.t.Fatalf("Put(%d, %v): false", id, at)
	}
	w.p[id] = at
	w.at(id)
}

// refused puts a unit where none may be: that is to change nothing.
func (w watched) refused(id int, at api.Pos) {
	w.t.Helper()
	if w.x.Put(id, at) {
		w.t.Fatalf("Put(%d, %v): true", id, at)
	}
	w.at(id)
	w.holds()
}

// drop drops a unit, which is to tell whether it was there.
func (w watched) drop(id int) {
	w.t.Helper()
	_, want := w.p[id]
	if got := w.x.Drop(id); got != want {
		w.t.Fatalf("Drop(%d): %t", id, got)
	}
	delete(w.p, id)
	w.at(id)
}

func (w watched) at(id int) {
	w.t.Helper()
	want, is := w.p[id]
	if got, ok := w.x.At(id); got != want || ok != is {
		w.t.Fatalf("At(%d): %v, %t, not %v, %t", id, got, ok, want, is)
	}
}

func (w watched) near(p api.Pos, r int) {
	w.t.Helper()
	if got, want := w.x.Near(p, r), w.p.near(p, r); !slices.Equal(got, want) {
		w.t.Fatalf("Near(%v, %d): %v, not %v", p, r, got, want)
	}
}

func (w watched) closest(p api.Pos, not int) {
	w.t.Helper()
	want, is := w.p.closest(p, not)
	if got, ok := w.x.Closest(p, not); got != want || ok != is {
		w.t.Fatalf("Closest(%v, %d): %d, %t, not %d, %t", p, not, got, ok, want, is)
	}
}

// holds asks for all units, by each call.
func (w watched) holds() {
	w.t.Helper()
	ids := w.p.ids()
	if got := w.x.Ids(); !slices.Equal(got, ids) {
		w.t.Fatalf("Ids: %v, not %v", got, ids)
	}
	for _, id := range ids {
		w.at(id)
		w.near(w.p[id], 0)
		w.closest(w.p[id], id)
	}
	w.near(tile(0, 0), 2*api.MaxSide)
	w.closest(tile(0, 0), api.MinInt)
}

// nears holds an answer of Near against these numbers.
func nears(t *testing.T, x *cells.Index, p api.Pos, r int, want ...int) {
	t.Helper()
	if got := x.Near(p, r); !slices.Equal(got, want) {
		t.Errorf("Near(%v, %d): %v, not %v", p, r, got, want)
	}
}

// isClosest holds an answer of Closest against this number, or against none.
func isClosest(t *testing.T, x *cells.Index, p api.Pos, not int, want ...int) {
	t.Helper()
	id, ok := x.Closest(p, not)
	if len(want) == 0 && (id != 0 || ok) || len(want) == 1 && (id != want[0] || !ok) {
		t.Errorf("Closest(%v, %d): %d, %t, not %v", p, not, id, ok, want)
	}
}

// placed answers an index with units of the numbers from 1 on at these places.
func placed(t *testing.T, at ...api.Pos) *cells.Index {
	t.Helper()
	x := cells.New()
	for i, p := range at {
		if !x.Put(i+1, p) {
			t.Fatalf("Put(%d, %v): false", i+1, p)
		}
	}
	return x
}

// endsOfNumbers are numbers below 0, of 0, and at the ends.
func endsOfNumbers() []int {
	return []int{api.MinInt, api.MinInt + 1, -1 << 32, -257, -1, 0, 1, 256, 1 << 32, api.MaxInt - 1, api.MaxInt}
}

// sideways are numbers on a map's side, about the borders of its parts.
func sideways() []int {
	return []int{0, 1, 7, 8, 15, 16, 17, 31, 32, 63, 64, 127, 128, 129, 239, 240, 254, last}
}

// beyond are numbers that are on no side, of some of which one would come, if
// they wrapped.
func beyond() []int {
	return []int{api.MinInt, api.MinInt + 1, -1 << 32, -256, -255, -17, -16, -15, -1, 256, 257, 272, 1 << 16, 1 << 32, 1<<32 + 5, api.MaxInt - 1, api.MaxInt}
}

func TestP8_1Examples(t *testing.T) {
	x := placed(t, tile(0, 0), tile(9, 0))
	nears(t, x, tile(1, 0), 2, 1)
	isClosest(t, x, tile(5, 0), 0, 2)
}

func TestP8_1NoUnit(t *testing.T) {
	w := newWatched(t)
	for _, id := range endsOfNumbers() {
		w.at(id)
		w.drop(id)
		w.drop(id)
	}
	w.holds()
	if got := w.x.Ids(); len(got) != 0 {
		t.Errorf("Ids: %v", got)
	}
}

func TestP8_1PutOnEachSide(t *testing.T) {
	w := newWatched(t)
	for _, x := range sideways() {
		for _, y := range sideways() {
			w.put(1, tile(x, y))
			w.put(1000*x+y+2, tile(x, y))
		}
	}
	w.holds()
}

func TestP8_1PutBeyondEachSide(t *testing.T) {
	empty, one := newWatched(t), newWatched(t)
	one.put(5, tile(3, 4))
	one.put(6, tile(last, 0))
	for _, n := range beyond() {
		for _, m := range append(sideways(), beyond()...) {
			for _, p := range []api.Pos{tile(n, m), tile(m, n)} {
				for _, id := range []int{5, 6, 7, 0} {
					empty.refused(id, p)
					one.refused(id, p)
				}
			}
		}
	}
}

func TestP8_1PutJustAtTheEnds(t *testing.T) {
	cases := []struct {
		p    api.Pos
		want bool
	}{
		{tile(0, 0), true}, {tile(last, 0), true}, {tile(0, last), true}, {tile(last, last), true},
		{tile(-1, 0), false}, {tile(0, -1), false}, {tile(-1, -1), false}, {tile(-1, last), false}, {tile(last, -1), false},
		{tile(api.MaxSide, 0), false}, {tile(0, api.MaxSide), false}, {tile(api.MaxSide, api.MaxSide), false},
		{tile(api.MaxSide, last), false}, {tile(last, api.MaxSide), false}, {tile(-1, api.MaxSide), false},
		{tile(api.MinInt, 0), false}, {tile(0, api.MinInt), false}, {tile(api.MaxInt, 0), false}, {tile(0, api.MaxInt), false},
		{tile(api.MinInt, api.MaxInt), false}, {tile(api.MaxInt, api.MaxInt), false},
	}
	for _, c := range cases {
		x := cells.New()
		if got := x.Put(9, c.p); got != c.want {
			t.Errorf("Put(9, %v): %t", c.p, got)
		}
		at, ok := x.At(9)
		if ok != c.want || c.want && at != c.p || !c.want && at != tile(0, 0) {
			t.Errorf("At behind Put(9, %v): %v, %t", c.p, at, ok)
		}
		if got := len(x.Ids()); (got == 1) != c.want || got > 1 {
			t.Errorf("behind Put(9, %v) there are %d units", c.p, got)
		}
		if x.Drop(9) != c.want {
			t.Errorf("Drop behind Put(9, %v): %t", c.p, !c.want)
		}
	}
}

func TestP8_1NumbersAtTheEnds(t *testing.T) {
	w := newWatched(t)
	numbers := endsOfNumbers()
	for i, id := range []int{5, 0, 10, 3, 7, 1, 9, 2, 8, 4, 6} {
		w.put(numbers[id], tile(i*25, last-i*20))
		w.holds()
	}
	if got := w.x.Ids(); !slices.Equal(got, numbers) {
		t.Errorf("Ids: %v", got)
	}
	nears(t, w.x, tile(0, 0), 2*api.MaxSide, numbers...)
	for _, id := range numbers {
		w.put(id, tile(40, 40))
	}
	nears(t, w.x, tile(40, 40), 0, numbers...)
	for _, id := range numbers {
		w.drop(id)
		w.drop(id)
		w.holds()
	}
}

// TestP8_1ZeroIsANumber: neither the number 0 nor the place that is zero tells
// that there is nothing.
func TestP8_1ZeroIsANumber(t *testing.T) {
	w := newWatched(t)
	w.at(0)
	w.put(0, tile(0, 0))
	w.at(1)
	w.drop(1)
	w.refused(1, tile(-1, 0))
	w.holds()
	nears(t, w.x, tile(0, 0), 0, 0)
	isClosest(t, w.x, tile(9, 9), 1, 0)
	isClosest(t, w.x, tile(0, 0), 0)
	w.drop(0)
	w.drop(0)
	w.holds()
}

func TestP8_1PutOfOneThatIsThere(t *testing.T) {
	w := newWatched(t)
	w.put(2, tile(100, 100))
	w.put(1, tile(5, 6))
	w.holds()
	w.put(1, tile(5, 6))
	w.put(1, tile(5, 6))
	w.holds()
	for _, p := range []api.Pos{tile(6, 6), tile(0, 0), tile(15, 15), tile(16, 15), tile(16, 16), tile(100, 100), tile(last, last), tile(5, 6)} {
		w.put(1, p)
		w.holds()
	}
	w.refused(1, tile(5, -1))
	w.refused(1, tile(api.MaxSide, 6))
	w.refused(1, tile(api.MinInt, api.MinInt))
	nears(t, w.x, tile(5, 6), 0, 1)
	w.drop(1)
	w.drop(1)
	w.holds()
}

func TestP8_1SeveralAtOnePlace(t *testing.T) {
	for _, p := range []api.Pos{tile(0, 0), tile(16, 15), tile(last, last)} {
		w := newWatched(t)
		for _, id := range []int{3, -8, 1, 0, 20, 2} {
			w.put(id, p)
		}
		w.holds()
		nears(t, w.x, p, 0, -8, 0, 1, 2, 3, 20)
		isClosest(t, w.x, p, 3, -8)
		isClosest(t, w.x, p, -8, 0)
		w.drop(0)
		w.drop(0)
		w.put(2, tile(80, 80))
		w.holds()
		nears(t, w.x, p, 0, -8, 1, 3, 20)
		nears(t, w.x, tile(80, 80), 0, 2)
	}
}

func TestP8_1Drop(t *testing.T) {
	w := newWatched(t)
	list := []api.Pos{tile(0, 0), tile(1, 0), tile(15, 0), tile(16, 0), tile(0, 0), tile(200, 9)}
	for i, p := range list {
		w.put(i+1, p)
	}
	for _, id := range []int{0, -1, 7, api.MinInt, api.MaxInt} {
		w.drop(id)
		w.holds()
	}
	for _, id := range []int{1, 6, 4, 2, 5, 3} {
		w.drop(id)
		w.holds()
		w.drop(id)
		w.holds()
		nears(t, w.x, list[id-1], 0, w.p.near(list[id-1], 0)...)
	}
	w.put(4, tile(16, 0))
	w.put(1, tile(0, 0))
	w.holds()
	nears(t, w.x, tile(0, 0), 16, 1, 4)
}

func TestP8_1IdsRise(t *testing.T) {
	source := rand.New(rand.NewSource(1))
	for count := range 60 {
		w := newWatched(t)
		for range count {
			w.put(source.Intn(100)-50, tile(source.Intn(api.MaxSide), source.Intn(api.MaxSide)))
		}
		if got := w.x.Ids(); !slices.IsSorted(got) || len(slices.Compact(slices.Clone(got))) != len(got) {
			t.Fatalf("Ids: %v", got)
		}
		w.holds()
	}
}

func TestP8_2NearOfNoUnit(t *testing.T) {
	dropped := cells.New()
	dropped.Put(1, tile(3, 3))
	dropped.Drop(1)
	for _, x := range []*cells.Index{cells.New(), dropped} {
		for _, r := range append(endsOfNumbers(), root, root+1) {
			for _, n := range append(endsOfNumbers(), 3) {
				for _, m := range append(endsOfNumbers(), 3) {
					nears(t, x, tile(n, m), r)
					isClosest(t, x, tile(n, m), r)
				}
			}
		}
	}
}

func TestP8_2NearByR(t *testing.T) {
	x := placed(t, tile(10, 10), tile(11, 10), tile(10, 11), tile(9, 9), tile(13, 14), tile(10, 15), tile(10, 16), tile(14, 14), tile(7, 6))
	all := []int{1, 2, 3, 4, 5, 6, 7, 8, 9}
	p := tile(10, 10)
	cases := []struct {
		r    int
		want []int
	}{
		{api.MinInt, nil}, {-api.MaxInt, nil}, {-256, nil}, {-5, nil}, {-1, nil},
		{0, []int{1}},
		{1, []int{1, 2, 3}},
		{2, []int{1, 2, 3, 4}},
		{4, []int{1, 2, 3, 4}},
		// 5 is just what is wanted of three, 32 and 36 are above its square
		{5, []int{1, 2, 3, 4, 5, 6, 9}},
		{6, all},
		{api.MaxSide, all}, {api.MaxSide + 1, all}, {1 << 16, all}, {1 << 32, all}, {root, all}, {root + 1, all}, {api.MaxInt, all},
	}
	for _, c := range cases {
		nears(t, x, p, c.r, c.want...)
	}
}

// TestP8_2NearOfEachPair holds one unit against one place at r just at and
// just below what is wanted.
func TestP8_2NearOfEachPair(t *testing.T) {
	numbers := []int{0, 1, 15, 16, 17, 128, 240, last}
	for _, n := range numbers {
		for _, m := range numbers {
			x := placed(t, tile(n, m))
			for _, k := range append(numbers, -1, -17, api.MaxSide, 300) {
				for _, l := range append(numbers, -1, -40, api.MaxSide+15) {
					p := tile(k, l)
					square, r := grid.Square(p, tile(n, m)), 0
					for r*r < square {
						r++
					}
					nears(t, x, p, r, 1)
					nears(t, x, p, r+1, 1)
					nears(t, x, p, r-1)
					isClosest(t, x, p, 0, 1)
					isClosest(t, x, p, 1)
				}
			}
		}
	}
}

func TestP8_2NearOfNoTile(t *testing.T) {
	x := placed(t, tile(0, 0), tile(last, 0), tile(0, last), tile(last, last), tile(3, 2))
	nears(t, x, tile(-1, 0), 0)
	nears(t, x, tile(-1, 0), 1, 1)
	nears(t, x, tile(-4, -3), 4)
	nears(t, x, tile(-4, -3), 5, 1)
	nears(t, x, tile(-4, -3), 9, 1, 5)
	nears(t, x, tile(-4, -3), 8, 1)
	nears(t, x, tile(api.MaxSide, last), 1, 4)
	nears(t, x, tile(last, api.MaxSide), 1, 4)
	nears(t, x, tile(api.MaxSide, api.MaxSide), 1)
	nears(t, x, tile(api.MaxSide, api.MaxSide), 2, 4)
	nears(t, x, tile(api.MaxSide, -1), 2, 2)
	nears(t, x, tile(-1, api.MaxSide), 2, 3)
	nears(t, x, tile(-1, 128), api.MaxSide, 1, 3, 5)
	nears(t, x, tile(-1<<31, 0), 1<<31-1)
	nears(t, x, tile(-1<<31, 0), 1<<31, 1)
	nears(t, x, tile(-1<<31, 0), 1<<31+1, 1, 3)
	nears(t, x, tile(-1<<31, 0), 1<<31+3, 1, 3)
	nears(t, x, tile(-1<<31, 0), 1<<31+4, 1, 3, 5)
	nears(t, x, tile(-1<<31, 0), 1<<31+last, 1, 2, 3, 5)
	nears(t, x, tile(-1<<31, 0), 1<<31+last+1, 1, 2, 3, 4, 5)
	nears(t, x, tile(-1<<32, 0), 1<<31)
	nears(t, x, tile(-1<<32, 0), 1<<32, 1, 2, 3, 4, 5)
}

// TestP8_2NearAtTheEnds: sums that meet the end of numbers let the farthest
// be near, where the square of r meets it too.
func TestP8_2NearAtTheEnds(t *testing.T) {
	x := placed(t, tile(0, 0), tile(last, last), tile(100, 3))
	for _, n := range []int{api.MinInt, api.MinInt + 1, -1 << 62, 1 << 62, api.MaxInt - 1, api.MaxInt} {
		for _, p := range []api.Pos{tile(n, n), tile(n, 0), tile(0, n), tile(n, -n), tile(100, n)} {
			for _, r := range []int{api.MinInt, api.MinInt + 1, -1 - root, -1, 0, 1, api.MaxSide, 1 << 31, root - 1, root} {
				nears(t, x, p, r)
			}
			for _, r := range []int{root + 1, root + 2, 1 << 32, 1 << 62, api.MaxInt - 1, api.MaxInt} {
				nears(t, x, p, r, 1, 2, 3)
			}
		}
	}
	// from here the squares of some meet the end, those of others do not
	nears(t, x, tile(-root, 0), root-1)
	nears(t, x, tile(-root, 0), root, 1)
	nears(t, x, tile(-root, 0), root+1, 1, 2, 3)
	nears(t, x, tile(last+root, last), root, 2)
	nears(t, x, tile(last+root, last), root-1)
	nears(t, x, tile(last+root, last), root+1, 1, 2, 3)
}

func TestP8_2Closest(t *testing.T) {
	list := []api.Pos{tile(0, 0), tile(9, 0), tile(9, 7), tile(16, 16), tile(200, 100)}
	x := placed(t, list...)
	for i, p := range list {
		isClosest(t, x, p, 0, i+1)
		isClosest(t, x, p, api.MinInt, i+1)
		isClosest(t, x, p, 6, i+1)
	}
	isClosest(t, x, tile(0, 0), 1, 2)
	isClosest(t, x, tile(9, 0), 2, 3)
	isClosest(t, x, tile(9, 7), 3, 2)
	isClosest(t, x, tile(16, 16), 4, 3)
	isClosest(t, x, tile(200, 100), 5, 4)
	isClosest(t, x, tile(4, 0), 0, 1)
	isClosest(t, x, tile(5, 0), 0, 2)
	isClosest(t, x, tile(5, 0), 2, 1)
	isClosest(t, x, tile(5, 0), 1, 2)
	isClosest(t, x, tile(last, last), 0, 5)
	isClosest(t, x, tile(-3, -3), 0, 1)
	isClosest(t, x, tile(-3, -3), 1, 2)
	isClosest(t, x, tile(300, 90), 5, 4)
}

func TestP8_2ClosestOfOneUnit(t *testing.T) {
	for _, id := range endsOfNumbers() {
		x := cells.New()
		x.Put(id, tile(7, 9))
		for _, n := range append(endsOfNumbers(), 7, 9, root, -root) {
			for _, p := range []api.Pos{tile(n, n), tile(n, 9), tile(7, n)} {
				isClosest(t, x, p, id)
				if id != api.MinInt {
					isClosest(t, x, p, id-1, id)
				}
				if id != api.MaxInt {
					isClosest(t, x, p, id+1, id)
				}
			}
		}
	}
}

// TestP8_2ClosestOfAlikeOnes holds units as far as one another, within a part
// of the map and in several, put by rising and by falling numbers.
func TestP8_2ClosestOfAlikeOnes(t *testing.T) {
	p := tile(100, 100)
	around := []api.Pos{
		tile(105, 100), tile(95, 100), tile(100, 105), tile(100, 95),
		tile(103, 104), tile(97, 104), tile(103, 96), tile(97, 96),
		tile(104, 103), tile(96, 103), tile(104, 97), tile(96, 97),
	}
	for turned := range around {
		list := slices.Concat(around[turned:], around[:turned])
		rising, falling := newWatched(t), newWatched(t)
		for i := range list {
			rising.put(i-4, list[i])
			falling.put(7-i, list[len(list)-1-i])
		}
		for _, w := range []watched{rising, falling} {
			w.put(-100, tile(100, 94))
			w.put(100, tile(106, 100))
			for not := -5; not <= 9; not++ {
				w.closest(p, not)
			}
			isClosest(t, w.x, p, 0, -4)
			isClosest(t, w.x, p, -100, -4)
			isClosest(t, w.x, p, -4, -3)
			w.drop(-4)
			w.drop(-3)
			isClosest(t, w.x, p, 0, -2)
			isClosest(t, w.x, p, -2, -1)
		}
	}
}

func TestP8_2ClosestAtTheEnds(t *testing.T) {
	x := placed(t, tile(last, last), tile(0, 0), tile(100, 3))
	x.Put(-7, tile(50, 50))
	for _, n := range []int{api.MinInt, api.MinInt + 1, -1 << 62, 1 << 62, api.MaxInt - 1, api.MaxInt} {
		for _, p := range []api.Pos{tile(n, n), tile(n, 0), tile(0, n), tile(n, -n)} {
			// all squares meet the end: they are alike
			isClosest(t, x, p, 0, -7)
			isClosest(t, x, p, -7, 1)
			isClosest(t, x, p, 1, -7)
		}
	}
	isClosest(t, x, tile(-root, 0), 0, 2)
	isClosest(t, x, tile(-root, 0), 2, -7)
	isClosest(t, x, tile(last+root, last), 0, 1)
	isClosest(t, x, tile(last+root, last), 1, -7)
	isClosest(t, x, tile(-root-1, 0), 0, -7)
	isClosest(t, x, tile(-1<<31, 0), -7, 2)
	isClosest(t, x, tile(-1<<31, 0), 2, -7)
}

// everywhere answers an index with a unit on each tile of the greatest map.
func everywhere(t *testing.T) (*cells.Index, plain) {
	t.Helper()
	x, p := cells.New(), plain{}
	for i := range api.MaxSide * api.MaxSide {
		at := tile(i%api.MaxSide, i/api.MaxSide)
		if !x.Put(i, at) {
			t.Fatalf("Put(%d, %v): false", i, at)
		}
		p[i] = at
	}
	return x, p
}

func TestP8_2UnitsEverywhere(t *testing.T) {
	x, p := everywhere(t)
	if got, want := x.Ids(), p.ids(); !slices.Equal(got, want) {
		t.Fatalf("%d units, not %d", len(got), len(want))
	}
	places := []api.Pos{tile(0, 0), tile(15, 16), tile(128, 127), tile(last, 3), tile(last, last), tile(-20, 40), tile(90, 300)}
	for _, at := range places {
		for _, r := range []int{-1, 0, 1, 15, 16, 40, 100, api.MaxSide, 2 * api.MaxSide} {
			if got, want := x.Near(at, r), p.near(at, r); !slices.Equal(got, want) {
				t.Fatalf("Near(%v, %d): %d units, not %d", at, r, len(got), len(want))
			}
		}
	}
	for i := 0; i < api.MaxSide*api.MaxSide; i += 601 {
		isClosest(t, x, p[i], -1, i)
		nears(t, x, p[i], 0, i)
	}
	isClosest(t, x, tile(0, 0), 0, 1)
	isClosest(t, x, tile(last, last), len(p)-1, len(p)-1-api.MaxSide)
	isClosest(t, x, tile(16, 16), 16*api.MaxSide+16, 15*api.MaxSide+16)
	isClosest(t, x, tile(-9, 9), -1, 9*api.MaxSide)
}

// spoil writes over all that a list has, its spare room too.
func spoil(list []int) {
	list = list[:cap(list)]
	for i := range list {
		list[i] = -99
	}
}

func TestP8_3AnswersAreNewMemory(t *testing.T) {
	for count := range 20 {
		w := newWatched(t)
		for i := range count {
			w.put(i*7-20, tile(i*11, last-i*3))
		}
		all := w.p.ids()
		calls := []func() []int{
			func() []int { return w.x.Ids() },
			func() []int { return w.x.Near(tile(0, last), 2*api.MaxSide) },
			func() []int { return w.x.Near(tile(last, 0), 1<<40) },
		}
		for _, call := range calls {
			first, second := call(), call()
			if !slices.Equal(first, all) || !slices.Equal(second, all) {
				t.Fatalf("%v, then %v, not %v", first, second, all)
			}
			spoil(first)
			if !slices.Equal(second, all) {
				t.Fatalf("the second answer turned: %v, not %v", second, all)
			}
			w.holds()
			spoil(second)
			if third := call(); !slices.Equal(third, all) {
				t.Fatalf("the third answer: %v, not %v", third, all)
			}
			for _, id := range first[:cap(first)] {
				if id != -99 {
					t.Fatalf("the first answer turned: %v", first)
				}
			}
			w.holds()
		}
	}
}

func TestP8_3LaterCallsTurnNoAnswer(t *testing.T) {
	w := newWatched(t)
	for i := range 30 {
		w.put(i, tile(i, i))
	}
	ids, near := w.x.Ids(), w.x.Near(tile(10, 10), 5)
	copies := [][]int{slices.Clone(ids), slices.Clone(near)}
	for i := range 30 {
		w.put(i-10, tile(last-i, i))
		w.drop(i - 5)
	}
	w.x.Ids()
	w.x.Near(tile(last, 0), 9)
	if !slices.Equal(ids, copies[0]) || !slices.Equal(near, copies[1]) || len(ids) != 30 || len(near) != 7 {
		t.Errorf("answers turned: %v, %v, not %v, %v", ids, near, copies[0], copies[1])
	}
	w.holds()
}

func TestP8_3IndexesAreApart(t *testing.T) {
	a, b := newWatched(t), newWatched(t)
	a.put(1, tile(5, 5))
	a.put(2, tile(6, 5))
	b.holds()
	b.at(1)
	b.put(1, tile(90, 90))
	b.put(3, tile(5, 5))
	a.holds()
	b.drop(1)
	b.drop(2)
	a.holds()
	a.drop(1)
	a.drop(3)
	b.holds()
	nears(t, a.x, tile(5, 5), api.MaxSide, 2)
	nears(t, b.x, tile(5, 5), api.MaxSide, 3)
}

func TestP8_3AskingTurnsNothing(t *testing.T) {
	w := newWatched(t)
	for i := range 12 {
		w.put(i, tile(i*20, i*9))
	}
	for range 3 {
		for _, n := range []int{api.MinInt, -1, 0, 100, last, api.MaxInt} {
			w.x.At(n)
			w.x.Near(tile(n, n), 50)
			w.x.Closest(tile(n, n), n)
			w.x.Ids()
		}
		w.holds()
	}
}

// somePlaces answers what draws a place: all over the map, about a border,
// about a corner, and beyond.
func somePlaces(source *rand.Rand) []func() api.Pos {
	ends := append(endsOfNumbers(), root, -root, root+100, 1<<31, -1<<31, last)
	return []func() api.Pos{
		func() api.Pos { return tile(source.Intn(api.MaxSide), source.Intn(api.MaxSide)) },
		func() api.Pos { return tile(13+source.Intn(6), 29+source.Intn(6)) },
		func() api.Pos { return tile(source.Intn(4), last-source.Intn(4)) },
		func() api.Pos { return tile(source.Intn(800)-300, source.Intn(800)-300) },
		func() api.Pos { return tile(ends[source.Intn(len(ends))], ends[source.Intn(len(ends))]) },
		func() api.Pos { return tile(source.Intn(api.MaxSide), ends[source.Intn(len(ends))]) },
	}
}

// asked answers distances to ask by: about those that are wanted, and ends.
func asked(source *rand.Rand) []int {
	return append(endsOfNumbers(), source.Intn(20), source.Intn(400), root, root+1, 1<<31)
}

func TestP8_4NearIsThoseThatOneFindsByAskingEach(t *testing.T) {
	source := rand.New(rand.NewSource(2))
	draws := somePlaces(source)
	for round := range 300 {
		w := newWatched(t)
		for range source.Intn(60) {
			id, p := source.Intn(80)-20, draws[round%3]()
			w.put(id, p)
		}
		for range 30 {
			p := draws[source.Intn(len(draws))]()
			for _, r := range asked(source) {
				var want []int
				for _, id := range w.x.Ids() {
					at, ok := w.x.At(id)
					if ok && grid.Near(p, at, r) {
						want = append(want, id)
					}
				}
				nears(t, w.x, p, r, want...)
			}
		}
	}
}

func TestP8_4AGreaterRFindsNoFewer(t *testing.T) {
	source := rand.New(rand.NewSource(3))
	draws := somePlaces(source)
	for round := range 200 {
		x := cells.New()
		for id := range source.Intn(80) {
			x.Put(id, draws[round%3]())
		}
		for range 10 {
			p := draws[source.Intn(len(draws))]()
			distances := append(asked(source), 0, 1, 2, 3, 5, 8, 15, 16, 17, 40, 100, 300, 500, 1200)
			slices.Sort(distances)
			var before []int
			for _, r := range distances {
				now := x.Near(p, r)
				for _, id := range before {
					if !slices.Contains(now, id) {
						t.Fatalf("Near(%v, %d): %v, but by less %v", p, r, now, before)
					}
				}
				before = now
			}
		}
	}
}

// TestP8_5PutAgainMoves asks each tile that the unit was on: it is on the last
// one alone.
func TestP8_5PutAgainMoves(t *testing.T) {
	source := rand.New(rand.NewSource(4))
	draws := somePlaces(source)
	for round := range 60 {
		w := newWatched(t)
		w.put(2, tile(20, 30))
		was := []api.Pos{tile(20, 30)}
		for range 40 {
			p := draws[round%3]()
			was = append(was, p)
			w.put(1, p)
			if got := w.x.Ids(); !slices.Equal(got, []int{1, 2}) {
				t.Fatalf("Ids: %v", got)
			}
			if got := w.x.Near(p, 2*api.MaxSide); !slices.Equal(got, []int{1, 2}) {
				t.Fatalf("all are near: %v", got)
			}
			for _, old := range was {
				if got := slices.Contains(w.x.Near(old, 0), 1); got != (old == p) {
					t.Fatalf("at %v, found on %v: %t", p, old, got)
				}
			}
		}
		w.drop(1)
		for _, old := range was {
			w.near(old, 0)
			w.closest(old, 2)
		}
	}
}

// TestP8_5OneStepAtATime walks over the borders of all parts of the map.
func TestP8_5OneStepAtATime(t *testing.T) {
	w := newWatched(t)
	for n := range api.MaxSide {
		for id, p := range []api.Pos{tile(n, n), tile(n, 17), tile(17, n), tile(last-n, n)} {
			w.put(id, p)
		}
		w.holds()
		for m := range api.MaxSide {
			if m != n {
				nears(t, w.x, tile(m, m), 0, w.p.near(tile(m, m), 0)...)
			}
		}
	}
}

func TestP8_5CallsAreAsTold(t *testing.T) {
	source := rand.New(rand.NewSource(5))
	draws := somePlaces(source)
	ends := endsOfNumbers()
	for round := range 150 {
		w := newWatched(t)
		for range 120 {
			id := source.Intn(12) - 3
			if round%4 == 0 {
				id = ends[source.Intn(len(ends))]
			}
			p := draws[source.Intn(len(draws))]()
			switch source.Intn(6) {
			case 0:
				w.drop(id)
			case 1:
				w.near(p, source.Intn(600))
				w.closest(p, id)
			default:
				if p.X >= 0 && p.X <= last && p.Y >= 0 && p.Y <= last {
					w.put(id, p)
				} else {
					w.refused(id, p)
				}
			}
		}
		w.holds()
	}
}
