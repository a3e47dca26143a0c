package shield_test

import (
	"fmt"
	"math/big"
	"math/rand"
	"slices"
	"testing"

	"barrow/api"
	"barrow/sat"
	"barrow/shield"
)

// shields are of the Auras 1, 2 and so on, with so much left of each.
func shields(lefts ...int) []api.Shield {
	var l []api.Shield
	for i, left := range lefts {
		l = append(l, api.Shield{Aura: i + 1, Left: left})
	}
	return l
}

// numbers are small ones, the ends of numbers and of parts, what is next to
// them, and what runs over into small ones.
func numbers() []int {
	list := []int{
		api.MinInt, api.MinInt + 1, api.MinInt + 100, api.MaxInt, api.MaxInt - 1, api.MaxInt - 100, api.MaxInt - 99,
		1 << 32, 1<<32 + 1, 1<<32 + 7, -1 << 32, 1 << 62, 1<<62 + 1, 1<<62 - 1, -1 << 62,
		api.MaxPart, api.MaxPart + 1, api.MaxPart - 1, api.MaxPart - 100, api.MaxPart - 99, api.MaxPart - 101,
		-api.MaxPart, -api.MaxPart - 1, -api.MaxPart + 1, -api.MaxPart - 100, -api.MaxPart - 99, -api.MaxPart - 101,
		api.MaxAmount, api.MaxAmount + 1, -api.MaxAmount, 333, 999, 12345, -12345,
	}
	for n := -205; n <= 205; n++ {
		list = append(list, n)
	}
	return list
}

// wide is the number as one of any length.
func wide(n int) *big.Int {
	return big.NewInt(int64(n))
}

// held is the number, at the end of numbers that it is beyond, if it is.
func held(n *big.Int) int {
	switch {
	case n.Cmp(wide(api.MaxInt)) > 0:
		return api.MaxInt
	case n.Cmp(wide(api.MinInt)) < 0:
		return api.MinInt
	}
	return int(n.Int64())
}

// plainSum is what is left of all, by numbers of any length.
func plainSum(l []api.Shield) *big.Int {
	sum := new(big.Int)
	for _, s := range l {
		if s.Left > 0 {
			sum.Add(sum, wide(s.Left))
		}
	}
	return sum
}

// plainTake asks of each shield by itself how much those ahead of it take
// away, and so how much of n comes to it.
func plainTake(l []api.Shield, n int) ([]api.Shield, int, []int) {
	if n < 1 {
		return slices.Clone(l), 0, nil
	}
	var left []api.Shield
	var gone []int
	for i, s := range l {
		ahead, together := plainSum(l[:i]), plainSum(l[:i+1])
		switch comes := wide(n); {
		case s.Left <= 0 || together.Cmp(comes) <= 0:
			gone = append(gone, s.Aura)
		case ahead.Cmp(comes) >= 0:
			left = append(left, s)
		default:
			left = append(left, api.Shield{Aura: s.Aura, Left: held(together.Sub(together, comes))})
		}
	}
	rest := wide(n)
	if rest.Sub(rest, plainSum(l)).Sign() < 0 {
		return left, 0, gone
	}
	return left, held(rest), gone
}

// plainMore is More, by numbers of any length.
func plainMore(n, part int) int {
	clamped := func(a *big.Int) *big.Int {
		return wide(min(max(held(a), -api.MaxPart), api.MaxPart))
	}
	whole := clamped(new(big.Int).Add(wide(100), wide(part)))
	product := whole.Mul(whole, clamped(wide(n)))
	if product.Sign() <= 0 {
		return 0
	}
	return held(product.Quo(product, wide(100)))
}

// lefts are what may be left of a shield in the lists that are tried out.
func lefts() []int {
	return []int{0, 1, -1, 2, 5, api.MaxInt, api.MinInt}
}

// lists are all lists of up to three of lefts, and some that are longer.
func lists() [][]api.Shield {
	list := [][]api.Shield{nil, {}}
	for _, a := range lefts() {
		list = append(list, shields(a))
		for _, b := range lefts() {
			list = append(list, shields(a, b))
			for _, c := range lefts() {
				list = append(list, shields(a, b, c))
			}
		}
	}
	many := make([]int, 0, 40)
	for i := range 40 {
		many = append(many, []int{3, 0, 11, -4, 1, api.MinInt, 7}[i%7])
	}
	return append(list,
		shields(many...),
		shields(0, 4, 0, 6, -1, 3, 0), shields(-5, 4, -6, 6, -7), shields(4, -1, 0, -1, 6), shields(5, 10, 15, 20, 25),
		shields(0, 0, 0, 0), shields(-1, -1, -1, -1), shields(1, 1, 1, 1, 1, 1), shields(api.MaxAmount, 1, api.MaxAmount),
		shields(1<<62, 1<<62, 1), shields(api.MaxInt-1, 1, 1), shields(api.MaxInt, api.MaxInt, api.MaxInt, api.MinInt), shields(1<<32, 1<<32),
		[]api.Shield{{Aura: 4, Left: 5}, {Aura: 4, Left: 6}, {Aura: 4, Left: 7}},
		[]api.Shield{{Aura: 0, Left: 5}, {Aura: -1, Left: 6}, {Aura: api.MinInt, Left: 7}, {Aura: api.MaxInt, Left: 8}, {Left: 0}},
		[]api.Shield{{Aura: 9, Left: 3}, {Aura: 2, Left: 3}, {Aura: 9, Left: 0}, {Aura: 2, Left: 4}, {Aura: 5, Left: 1}, {Aura: 9, Left: 2}},
	)
}

// blows are numbers just at, above and below what the first of the shields, the
// first two, and so on, take away, and the ends of numbers.
func blows(l []api.Shield) []int {
	list := []int{0, 1, -1, 2, 3, -2, 8, api.MaxInt, api.MaxInt - 1, api.MinInt, api.MinInt + 1, 1 << 62, 1 << 32, -1 << 32}
	for i := range len(l) + 1 {
		sum := held(plainSum(l[:i]))
		list = append(list, sum, sat.Add(sum, 1), sat.Sub(sum, 1), -sum)
		if i > 0 {
			list = append(list, l[i-1].Left, sat.Sub(0, l[i-1].Left))
		}
	}
	return list
}

// checkTake holds what Take answers against what is told of it.
func checkTake(t *testing.T, l []api.Shield, n int) {
	t.Helper()
	left, rest, gone := shield.Take(l, n)
	wantLeft, wantRest, wantGone := plainTake(l, n)
	if !slices.Equal(left, wantLeft) || rest != wantRest || !slices.Equal(gone, wantGone) {
		t.Fatalf("Take(%v, %d): %v, %d, %v, not %v, %d, %v", l, n, left, rest, gone, wantLeft, wantRest, wantGone)
	}
}

// drawn are some shields, often with nothing left of them.
func drawn(source *rand.Rand) []api.Shield {
	l := make([]api.Shield, source.Intn(7))
	for i := range l {
		l[i] = api.Shield{Aura: source.Intn(6) - 1, Left: source.Intn(14) - 3}
		if source.Intn(12) == 0 {
			l[i].Left = lefts()[source.Intn(len(lefts()))]
		}
	}
	return l
}

// turn is a blow that is taken, and what comes of it.
type turn struct {
	l    []api.Shield
	n    int
	left []api.Shield
	rest int
	gone []int
}

func checkTurns(t *testing.T, turns []turn) {
	t.Helper()
	for _, c := range turns {
		left, rest, gone := shield.Take(c.l, c.n)
		if !slices.Equal(left, c.left) || rest != c.rest || !slices.Equal(gone, c.gone) {
			t.Errorf("Take(%v, %d): %v, %d, %v, not %v, %d, %v", c.l, c.n, left, rest, gone, c.left, c.rest, c.gone)
		}
		checkTake(t, c.l, c.n)
	}
}

func TestP14_1TakeByCases(t *testing.T) {
	two := shields(5, 10)
	checkTurns(t, []turn{
		{nil, 1, nil, 1, nil},
		{nil, api.MaxInt, nil, api.MaxInt, nil},
		{[]api.Shield{}, 7, nil, 7, nil},
		{shields(5), 1, shields(4), 0, nil},
		{shields(5), 4, shields(1), 0, nil},
		{shields(5), 5, nil, 0, []int{1}},
		{shields(5), 6, nil, 1, []int{1}},
		{shields(1), 1, nil, 0, []int{1}},
		{shields(1), 2, nil, 1, []int{1}},
		{two, 1, shields(4, 10), 0, nil},
		{two, 4, shields(1, 10), 0, nil},
		{two, 5, []api.Shield{{Aura: 2, Left: 10}}, 0, []int{1}},
		{two, 6, []api.Shield{{Aura: 2, Left: 9}}, 0, []int{1}},
		{two, 8, []api.Shield{{Aura: 2, Left: 7}}, 0, []int{1}},
		{two, 14, []api.Shield{{Aura: 2, Left: 1}}, 0, []int{1}},
		{two, 15, nil, 0, []int{1, 2}},
		{two, 16, nil, 1, []int{1, 2}},
		{two, api.MaxInt, nil, api.MaxInt - 15, []int{1, 2}},
		{shields(5, 10, 15), 14, []api.Shield{{Aura: 2, Left: 1}, {Aura: 3, Left: 15}}, 0, []int{1}},
		{shields(5, 10, 15), 15, []api.Shield{{Aura: 3, Left: 15}}, 0, []int{1, 2}},
		{shields(5, 10, 15), 16, []api.Shield{{Aura: 3, Left: 14}}, 0, []int{1, 2}},
		{shields(5, 10, 15), 29, []api.Shield{{Aura: 3, Left: 1}}, 0, []int{1, 2}},
		{shields(5, 10, 15), 30, nil, 0, []int{1, 2, 3}},
		{shields(5, 10, 15), 31, nil, 1, []int{1, 2, 3}},
	})
}

// TestP14_1NothingLeft has shields of which nothing is left ahead of, between
// and behind others, reached by something of n and by nothing of it.
func TestP14_1NothingLeft(t *testing.T) {
	for _, none := range []int{0, -1, -2, -100, api.MinInt, api.MinInt + 1, -1 << 32} {
		checkTurns(t, []turn{
			{shields(none), 1, nil, 1, []int{1}},
			{shields(none), api.MaxInt, nil, api.MaxInt, []int{1}},
			{shields(none, none), 7, nil, 7, []int{1, 2}},
			{shields(none, 5), 2, []api.Shield{{Aura: 2, Left: 3}}, 0, []int{1}},
			{shields(none, 5), 5, nil, 0, []int{1, 2}},
			{shields(none, 5), 6, nil, 1, []int{1, 2}},
			{shields(5, none), 2, shields(3), 0, []int{2}},
			{shields(5, none), 5, nil, 0, []int{1, 2}},
			{shields(5, none), 6, nil, 1, []int{1, 2}},
			{shields(5, none, 6), 2, []api.Shield{{Aura: 1, Left: 3}, {Aura: 3, Left: 6}}, 0, []int{2}},
			{shields(5, none, 6), 5, []api.Shield{{Aura: 3, Left: 6}}, 0, []int{1, 2}},
			{shields(5, none, 6), 7, []api.Shield{{Aura: 3, Left: 4}}, 0, []int{1, 2}},
			{shields(5, none, 6), 11, nil, 0, []int{1, 2, 3}},
			{shields(5, none, 6), 12, nil, 1, []int{1, 2, 3}},
			{shields(none, 5, none, 6, none), 1, []api.Shield{{Aura: 2, Left: 4}, {Aura: 4, Left: 6}}, 0, []int{1, 3, 5}},
			{shields(none, 5, none, 6, none), 6, []api.Shield{{Aura: 4, Left: 5}}, 0, []int{1, 2, 3, 5}},
			{shields(none, 5, none, 6, none), 20, nil, 9, []int{1, 2, 3, 4, 5}},
		})
	}
}

// TestP14_1NotReached has shields that nothing of n comes to any more.
func TestP14_1NotReached(t *testing.T) {
	checkTurns(t, []turn{
		{shields(3, 5, 7), 3, []api.Shield{{Aura: 2, Left: 5}, {Aura: 3, Left: 7}}, 0, []int{1}},
		{shields(3, 5, 7), 2, shields(1, 5, 7), 0, nil},
		{shields(3, 0, 7), 3, []api.Shield{{Aura: 3, Left: 7}}, 0, []int{1, 2}},
		{shields(3, 0, 7, -1), 2, []api.Shield{{Aura: 1, Left: 1}, {Aura: 3, Left: 7}}, 0, []int{2, 4}},
		{shields(3, 1, 1), 3, []api.Shield{{Aura: 2, Left: 1}, {Aura: 3, Left: 1}}, 0, []int{1}},
		{shields(1, api.MaxInt, 0, api.MaxInt), 1, []api.Shield{{Aura: 2, Left: api.MaxInt}, {Aura: 4, Left: api.MaxInt}}, 0, []int{1, 3}},
		{shields(1, api.MinInt, 2, api.MinInt), 1, []api.Shield{{Aura: 3, Left: 2}}, 0, []int{1, 2, 4}},
	})
}

func TestP14_1AtTheEnds(t *testing.T) {
	most := api.MaxInt
	checkTurns(t, []turn{
		{shields(most), 1, shields(most - 1), 0, nil},
		{shields(most), most - 1, shields(1), 0, nil},
		{shields(most), most, nil, 0, []int{1}},
		{shields(most - 1), most, nil, 1, []int{1}},
		{shields(most, most), most, []api.Shield{{Aura: 2, Left: most}}, 0, []int{1}},
		{shields(most, most), most - 1, shields(1, most), 0, nil},
		{shields(most-1, most), most, []api.Shield{{Aura: 2, Left: most - 1}}, 0, []int{1}},
		{shields(1, most), most, []api.Shield{{Aura: 2, Left: 1}}, 0, []int{1}},
		{shields(2, most-1, most), most, []api.Shield{{Aura: 2, Left: 1}, {Aura: 3, Left: most}}, 0, []int{1}},
		{shields(1<<62, 1<<62), most, []api.Shield{{Aura: 2, Left: 1}}, 0, []int{1}},
		{shields(1<<62, 1<<62-1), most, nil, 0, []int{1, 2}},
		{shields(1<<62-1, 1<<62-1), most, nil, 1, []int{1, 2}},
		{shields(1<<32, 7), 1<<32 + 3, []api.Shield{{Aura: 2, Left: 4}}, 0, []int{1}},
		{shields(api.MinInt, most), most, nil, 0, []int{1, 2}},
		{shields(api.MinInt, api.MinInt), most, nil, most, []int{1, 2}},
	})
}

// TestP14_1Auras has one and the same Aura twice, and Auras that are none.
func TestP14_1Auras(t *testing.T) {
	same := []api.Shield{{Aura: 4, Left: 5}, {Aura: 4, Left: 6}, {Aura: 4, Left: 7}}
	odd := []api.Shield{{Aura: 0, Left: 5}, {Aura: -1, Left: 6}, {Aura: api.MinInt, Left: 7}, {Aura: api.MaxInt, Left: 8}}
	falls := []api.Shield{{Aura: 9, Left: 1}, {Aura: 3, Left: 0}, {Aura: 7, Left: 2}, {Aura: 1, Left: 5}, {Aura: 8, Left: 0}, {Aura: 2, Left: 6}}
	checkTurns(t, []turn{
		{same, 4, []api.Shield{{Aura: 4, Left: 1}, {Aura: 4, Left: 6}, {Aura: 4, Left: 7}}, 0, nil},
		{same, 5, same[1:], 0, []int{4}},
		{same, 12, []api.Shield{{Aura: 4, Left: 6}}, 0, []int{4, 4}},
		{same, 19, nil, 1, []int{4, 4, 4}},
		{odd, 3, []api.Shield{{Aura: 0, Left: 2}, odd[1], odd[2], odd[3]}, 0, nil},
		{odd, 7, []api.Shield{{Aura: -1, Left: 4}, odd[2], odd[3]}, 0, []int{0}},
		{odd, 18, odd[3:], 0, []int{0, -1, api.MinInt}},
		{odd, 30, nil, 4, []int{0, -1, api.MinInt, api.MaxInt}},
		{falls, 2, []api.Shield{{Aura: 7, Left: 1}, {Aura: 1, Left: 5}, {Aura: 2, Left: 6}}, 0, []int{9, 3, 8}},
		{falls, 4, []api.Shield{{Aura: 1, Left: 4}, {Aura: 2, Left: 6}}, 0, []int{9, 3, 7, 8}},
		{falls, 8, falls[5:], 0, []int{9, 3, 7, 1, 8}},
		{falls, 14, nil, 0, []int{9, 3, 7, 1, 8, 2}},
		{[]api.Shield{{Left: 1}, {Left: 0}, {Left: 1}}, 1, []api.Shield{{Left: 1}}, 0, []int{0, 0}},
	})
}

// TestP14_1NBelowOne has blows that are none: also shields of which nothing is
// left stay there.
func TestP14_1NBelowOne(t *testing.T) {
	for _, n := range []int{0, -1, -2, -5, -100, -1 << 32, api.MinInt, api.MinInt + 1} {
		for _, l := range lists() {
			left, rest, gone := shield.Take(l, n)
			if !slices.Equal(left, l) || rest != 0 || len(gone) != 0 {
				t.Fatalf("Take(%v, %d): %v, %d, %v", l, n, left, rest, gone)
			}
		}
	}
}

func TestP14_1TakeAsTold(t *testing.T) {
	for _, l := range lists() {
		for _, n := range blows(l) {
			checkTake(t, l, n)
		}
	}
	source := rand.New(rand.NewSource(1))
	for range 50000 {
		l := drawn(source)
		checkTake(t, l, source.Intn(40)-2)
		if list := blows(l); source.Intn(4) == 0 {
			checkTake(t, l, list[source.Intn(len(list))])
		}
	}
}

func TestP14_2LeftByCases(t *testing.T) {
	most, least := api.MaxInt, api.MinInt
	cases := []struct {
		l    []api.Shield
		want int
	}{
		{nil, 0}, {[]api.Shield{}, 0}, {shields(0), 0}, {shields(1), 1}, {shields(-1), 0}, {shields(5, 10), 15},
		{shields(0, 0, 0), 0}, {shields(-1, -5, 0), 0}, {shields(least), 0}, {shields(least, least), 0}, {shields(least, -1, least), 0},
		{shields(5, -3), 5}, {shields(-3, 5), 5}, {shields(5, -3, 7), 12}, {shields(-1, 1), 1}, {shields(1, -1, 0, 1), 2},
		{shields(5, least), 5}, {shields(least, 5), 5}, {shields(least, most), most}, {shields(most, least), most},
		{shields(most), most}, {shields(most - 1), most - 1}, {shields(most-1, 1), most}, {shields(1, most-1), most},
		{shields(most, 1), most}, {shields(1, most), most}, {shields(most, most), most}, {shields(most, most, most), most},
		{shields(most-1, 1, 1), most}, {shields(most, 1, -5), most}, {shields(most, most, least, least), most}, {shields(most, -1), most},
		{shields(1<<62, 1<<62), most}, {shields(1<<62, 1<<62-1), most}, {shields(1<<62-1, 1<<62-1), most - 1},
		{shields(1<<32, 1<<32), 1 << 33}, {shields(api.MaxPart, 1), 1 << 31}, {shields(api.MaxAmount, api.MaxAmount), 2 * api.MaxAmount},
		{[]api.Shield{{Aura: 3, Left: 4}, {Aura: 3, Left: 4}}, 8}, {[]api.Shield{{Aura: -3, Left: 4}, {Aura: api.MaxInt, Left: 4}, {Left: 1}}, 9},
	}
	for _, c := range cases {
		if got := shield.Left(c.l); got != c.want {
			t.Errorf("Left(%v): %d, not %d", c.l, got, c.want)
		}
	}
}

func TestP14_2LeftAsTold(t *testing.T) {
	check := func(l []api.Shield) {
		t.Helper()
		if got, want := shield.Left(l), held(plainSum(l)); got != want {
			t.Fatalf("Left(%v): %d, not %d", l, got, want)
		}
	}
	for _, l := range lists() {
		check(l)
	}
	source := rand.New(rand.NewSource(2))
	for range 30000 {
		check(drawn(source))
	}
}

func TestP14_3MoreByCases(t *testing.T) {
	cases := []struct {
		n, part, want int
	}{
		{50, -20, 40}, {50, 20, 60}, {100, 50, 150}, {150, -50, 75},
		{50, 0, 50}, {50, 1, 50}, {50, 2, 51}, {50, -1, 49}, {50, -2, 49}, {50, -3, 48},
		{100, 1, 101}, {100, -1, 99}, {99, 1, 99}, {99, -1, 98}, {1, 99, 1}, {1, 100, 2}, {1, 0, 1}, {1, -1, 0}, {1, -99, 0},
		{50, 100, 100}, {50, -99, 0}, {100, -99, 1}, {199, -99, 1}, {200, -99, 2}, {50, -100, 0}, {50, -101, 0}, {10000, -101, 0}, {1, -101, 0},
		{0, 0, 0}, {0, 100, 0}, {0, -1, 0}, {0, -101, 0}, {0, api.MaxInt, 0}, {0, api.MinInt, 0},
		{-50, 0, 0}, {-50, 20, 0}, {-50, -20, 0}, {-50, -99, 0}, {-50, -100, 0}, {-1, 0, 0}, {-1, 1, 0}, {-1, api.MaxInt, 0},
		{-50, -101, 0}, {-100, -101, 1}, {-199, -101, 1}, {-200, -101, 2}, {-50, -150, 25}, {-50, -200, 50}, {-1, -200, 1}, {-1, -199, 0},
		{7, 33, 9}, {7, -33, 4}, {7, 50, 10}, {3, 34, 4}, {3, 33, 3}, {333, 10, 366}, {999, -1, 989}, {12345, 67, 20616},
		{api.MaxAmount, 100, 2 * api.MaxAmount}, {api.MaxAmount, -50, api.MaxAmount / 2},
		{api.MaxPart, 0, api.MaxPart}, {api.MaxPart + 1, 0, api.MaxPart}, {api.MaxInt, 0, api.MaxPart}, {api.MaxPart - 1, 0, api.MaxPart - 1},
		{api.MaxInt, -100, 0}, {api.MaxInt, -101, 0}, {api.MaxInt, -99, 21474836}, {api.MaxInt, 100, 2 * api.MaxPart},
		{api.MinInt, 0, 0}, {api.MinInt, 100, 0}, {api.MinInt, -100, 0}, {api.MinInt, -101, 21474836}, {api.MinInt, -200, api.MaxPart},
		{100, api.MaxInt, api.MaxPart}, {100, api.MaxInt - 100, api.MaxPart}, {100, api.MaxInt - 99, api.MaxPart},
		{100, api.MaxPart, api.MaxPart}, {100, api.MaxPart - 100, api.MaxPart}, {100, api.MaxPart - 99, api.MaxPart}, {100, api.MaxPart - 101, api.MaxPart - 1},
		{1, api.MaxInt, 21474836}, {100, api.MinInt, 0}, {100, api.MinInt + 100, 0}, {-100, api.MinInt, api.MaxPart}, {-100, api.MinInt + 1, api.MaxPart},
		{-100, -api.MaxPart - 100, api.MaxPart}, {-100, -api.MaxPart - 99, api.MaxPart - 1}, {-100, -api.MaxPart - 101, api.MaxPart}, {-1, api.MinInt, 21474836},
		{api.MaxInt, api.MaxInt, 46116860141324206}, {api.MinInt, api.MinInt, 46116860141324206}, {api.MaxInt, api.MinInt, 0}, {api.MinInt, api.MaxInt, 0},
	}
	for _, c := range cases {
		if got := shield.More(c.n, c.part); got != c.want {
			t.Errorf("More(%d, %d): %d, not %d", c.n, c.part, got, c.want)
		}
		if got := shield.All(c.n, c.part); got != c.want {
			t.Errorf("All(%d, %d): %d, not %d", c.n, c.part, got, c.want)
		}
	}
}

func TestP14_3MoreAsTold(t *testing.T) {
	for _, n := range numbers() {
		for _, part := range numbers() {
			want := plainMore(n, part)
			if got := shield.More(n, part); got != want {
				t.Fatalf("More(%d, %d): %d, not %d", n, part, got, want)
			}
			if got := max(sat.Part(n, sat.Add(part, 100), 100), 0); got != want {
				t.Fatalf("the part of %d, 100 and %d: %d, not %d", n, part, got, want)
			}
		}
	}
}

func TestP14_3AllByCases(t *testing.T) {
	cases := []struct {
		n     int
		parts []int
		want  int
	}{
		{100, []int{50, -50}, 75}, {100, []int{-50, 50}, 75},
		{7, []int{50, -50}, 5}, {7, []int{-50, 50}, 4}, {1, []int{100, -50}, 1}, {1, []int{-50, 100}, 0}, {3, []int{33, 34}, 4}, {3, []int{34, 33}, 5},
		{10, []int{0}, 10}, {10, []int{0, 0}, 10}, {10, []int{-100, 900}, 0}, {10, []int{900, -100}, 0}, {10, []int{-101, 900}, 0}, {10, []int{-200, -200}, 0},
		{-50, []int{0, 0}, 0}, {-50, []int{-200, 0}, 50}, {-50, []int{0, -200}, 0}, {-50, []int{-200, 100}, 100}, {-50, []int{-200, -200}, 0},
		{100, []int{10, 10, 10}, 133}, {100, []int{10, 10, 10, -10}, 119}, {100, []int{-10, 10, 10, 10}, 118}, {1, []int{100, 100, 100, 100, 100}, 32},
		{100, []int{1, 1, 1, 1, 1, 1, 1, 1, 1, 1}, 110}, {99, []int{1, 1, 1, 1, 1, 1, 1, 1, 1, 1}, 99},
		{api.MaxInt, []int{0}, api.MaxPart}, {api.MaxInt, []int{0, 100}, 2 * api.MaxPart}, {api.MaxInt, []int{100, 0}, api.MaxPart}, {api.MaxInt, []int{100, -50}, 1073741823},
		{1, []int{api.MaxInt, api.MaxInt}, 461168591320068}, {1, []int{api.MaxInt, api.MinInt}, 0}, {1, []int{api.MinInt, api.MaxInt}, 0}, {-100, []int{api.MinInt, -50}, 1073741823},
	}
	for _, c := range cases {
		if got := shield.All(c.n, c.parts...); got != c.want {
			t.Errorf("All(%d, %v): %d, not %d", c.n, c.parts, got, c.want)
		}
	}
}

// TestP14_3NoPart has no part at all: nothing is reckoned, not the clamp and
// not the 0 at least either.
func TestP14_3NoPart(t *testing.T) {
	for _, n := range numbers() {
		if got := shield.All(n); got != n {
			t.Errorf("All(%d): %d", n, got)
		}
		if got := shield.All(n, []int{}...); got != n {
			t.Errorf("All(%d) of an empty list: %d", n, got)
		}
	}
}

func TestP14_3AllAsTold(t *testing.T) {
	check := func(n int, parts []int) {
		t.Helper()
		want := n
		for _, part := range parts {
			want = plainMore(want, part)
		}
		if got := shield.All(n, parts...); got != want {
			t.Fatalf("All(%d, %v): %d, not %d", n, parts, got, want)
		}
	}
	far := []int{0, 1, -1, 50, -50, 99, 100, -99, -100, -101, -150, -200, api.MaxPart, -api.MaxPart, api.MaxInt, api.MinInt}
	for _, n := range far {
		for _, a := range far {
			for _, b := range far {
				check(n, []int{a, b})
				for _, c := range far {
					check(n, []int{a, b, c})
				}
			}
		}
	}
	source, all := rand.New(rand.NewSource(3)), numbers()
	for range 30000 {
		parts := make([]int, source.Intn(9))
		for i := range parts {
			parts[i] = source.Intn(250) - 110
			if source.Intn(8) == 0 {
				parts[i] = all[source.Intn(len(all))]
			}
		}
		check(all[source.Intn(len(all))], parts)
		check(source.Intn(2000), parts)
	}
}

// guarded answers the list with spare room behind it, and a check that neither
// has changed.
func guarded[T comparable](t *testing.T, list []T, spare T) ([]T, func()) {
	whole := append(slices.Clone(list), slices.Repeat([]T{spare}, 16)...)
	before := slices.Clone(whole)
	return whole[:len(list)], func() {
		t.Helper()
		if !slices.Equal(whole, before) {
			t.Fatalf("%v became %v", before, whole)
		}
	}
}

// spoil writes over all that a list has, its spare room too.
func spoil[T any](list []T, with T) {
	list = list[:cap(list)]
	for i := range list {
		list[i] = with
	}
}

// strange is what no list here holds.
var strange = api.Shield{Aura: 777, Left: 888}

func TestP14_4ShieldsAreNotChanged(t *testing.T) {
	for _, l := range lists() {
		for _, n := range blows(l) {
			list, check := guarded(t, l, strange)
			shield.Take(list, n)
			shield.Left(list)
			check()
			shield.Take(list[:len(list):len(list)], n)
			check()
		}
	}
}

func TestP14_4PartsAreNotChanged(t *testing.T) {
	for _, l := range [][]int{nil, {0}, {50, -50}, {-101, 1, 2}, {api.MaxInt, api.MinInt, 7}, make([]int, 9)} {
		for _, n := range []int{100, 0, -1, api.MaxInt, api.MinInt} {
			parts, check := guarded(t, l, 777)
			shield.All(n, parts...)
			check()
		}
	}
}

// TestP14_4AnswersAreNewMemory writes over what one call answered, shields and
// Auras by turns, and looks at what was handed in and at a second answer.
func TestP14_4AnswersAreNewMemory(t *testing.T) {
	for _, l := range lists() {
		for _, n := range blows(l) {
			wantLeft, wantRest, wantGone := plainTake(l, n)
			list, check := guarded(t, l, strange)
			firstLeft, _, firstGone := shield.Take(list, n)
			left, rest, gone := shield.Take(list, n)
			spoil(firstLeft, strange)
			if !slices.Equal(firstGone, wantGone) {
				t.Fatalf("Take(%v, %d): %v by now, not %v", l, n, firstGone, wantGone)
			}
			spoil(firstGone, 777)
			check()
			if !slices.Equal(left, wantLeft) || rest != wantRest || !slices.Equal(gone, wantGone) {
				t.Fatalf("Take(%v, %d): %v, %d, %v by now", l, n, left, rest, gone)
			}
			spoil(gone, 777)
			if !slices.Equal(left, wantLeft) {
				t.Fatalf("Take(%v, %d): %v by now, not %v", l, n, left, wantLeft)
			}
			checkTake(t, list, n)
		}
	}
}

// TestP14_4NothingIsKept writes over what was handed in.
func TestP14_4NothingIsKept(t *testing.T) {
	for _, l := range lists() {
		for _, n := range blows(l) {
			wantLeft, wantRest, wantGone := plainTake(l, n)
			list := append(make([]api.Shield, 0, len(l)+8), l...)
			left, rest, gone := shield.Take(list, n)
			spoil(list, strange)
			if !slices.Equal(left, wantLeft) || rest != wantRest || !slices.Equal(gone, wantGone) {
				t.Fatalf("Take(%v, %d): %v, %d, %v by now", l, n, left, rest, gone)
			}
		}
	}
}

// TestP14_5Together adds up what is taken away and what is left, of n and of
// the shields.
func TestP14_5Together(t *testing.T) {
	check := func(l []api.Shield, n int) {
		t.Helper()
		left, rest, _ := shield.Take(l, n)
		taken := new(big.Int).Sub(plainSum(l), plainSum(left))
		if taken.Sign() < 0 || rest < 0 || rest > n || taken.Add(taken, wide(rest)).Cmp(wide(n)) != 0 {
			t.Fatalf("Take(%v, %d): %v, %d", l, n, left, rest)
		}
		if sum := plainSum(l); sum.Cmp(wide(api.MaxInt)) <= 0 && shield.Left(l)-shield.Left(left) != n-rest {
			t.Fatalf("Take(%v, %d): %v, %d: %d is left of %d", l, n, left, rest, shield.Left(left), shield.Left(l))
		}
		if rest > 0 && (len(left) > 0 || shield.Left(left) != 0) {
			t.Fatalf("Take(%v, %d): %v is left, and %d", l, n, left, rest)
		}
	}
	for _, l := range lists() {
		for _, n := range blows(l) {
			if n >= 0 {
				check(l, n)
			}
		}
	}
	source := rand.New(rand.NewSource(4))
	for range 50000 {
		check(drawn(source), source.Intn(40))
	}
}

// TestP14_5EachIsThere holds that each shield is either left, or its Aura told.
func TestP14_5EachIsThere(t *testing.T) {
	for _, l := range lists() {
		for _, n := range blows(l) {
			left, _, gone := shield.Take(l, n)
			if len(left)+len(gone) != len(l) {
				t.Fatalf("Take(%v, %d): %v, %v", l, n, left, gone)
			}
			for _, s := range left {
				if n > 0 && s.Left < 1 {
					t.Fatalf("Take(%v, %d): %v", l, n, left)
				}
			}
		}
	}
}

// checkTwo holds two blows, one behind the other, against one of both.
func checkTwo(t *testing.T, l []api.Shield, a, b int) {
	t.Helper()
	first, restOfA, goneByA := shield.Take(l, a)
	second, restOfB, goneByB := shield.Take(first, b)
	both, rest, gone := shield.Take(l, a+b)
	if !slices.Equal(second, both) || restOfA+restOfB != rest || !slices.Equal(slices.Concat(goneByA, goneByB), gone) {
		t.Fatalf("%v, %d and %d: %v, %d and %d, %v and %v, not %v, %d, %v",
			l, a, b, second, restOfA, restOfB, goneByA, goneByB, both, rest, gone)
	}
}

// TestP14_6TwoBlows has shields that all have something left. Those that go
// do so in order, so the Auras are the same, too.
func TestP14_6TwoBlows(t *testing.T) {
	most := api.MaxInt
	full := [][]api.Shield{
		nil, shields(1), shields(5), shields(5, 10), shields(1, 1, 1), shields(10, 5, 1, 7), shields(5, 5, 5, 5),
		shields(3, 1, 4, 1, 5, 9, 2, 6, 5), shields(most), shields(5, most), shields(most, 5), shields(most, most),
		{{Aura: 4, Left: 5}, {Aura: 4, Left: 6}}, {{Aura: -4, Left: 5}, {Left: 6}},
	}
	for _, l := range full {
		for a := range 50 {
			for b := range 50 {
				checkTwo(t, l, a, b)
			}
		}
		for i := range l {
			just := held(plainSum(l[:i+1]))
			for _, a := range []int{just, just - 1, sat.Add(just, 1)} {
				for _, b := range []int{0, 1, 2, l[i].Left, most} {
					checkTwo(t, l, a, min(b, most-a))
					checkTwo(t, l, min(b, most-a), a)
				}
			}
		}
	}
	source := rand.New(rand.NewSource(5))
	for range 50000 {
		l := drawn(source)
		for i := range l {
			l[i].Left = max(l[i].Left, 1)
		}
		checkTwo(t, l, source.Intn(30), source.Intn(30))
	}
}

func TestP14_Examples(t *testing.T) {
	left, rest, gone := shield.Take([]api.Shield{{Aura: 1, Left: 5}, {Aura: 2, Left: 10}}, 8)
	if told := fmt.Sprint(left, rest, gone); told != "[{2 7}] 0 [1]" {
		t.Error(told)
	}
	if more, all := shield.More(50, -20), shield.All(100, 50, -50); more != 40 || all != 75 {
		t.Errorf("%d, %d", more, all)
	}
}

// TestW2AsOften is of calls that are made twice, others between: they keep
// nothing.
func TestW2AsOften(t *testing.T) {
	source := rand.New(rand.NewSource(6))
	for range 20000 {
		l, n := drawn(source), source.Intn(30)-1
		before := slices.Clone(l)
		left, rest, gone := shield.Take(l, n)
		shield.Take(drawn(source), source.Intn(30))
		againLeft, againRest, againGone := shield.Take(l, n)
		if !slices.Equal(left, againLeft) || rest != againRest || !slices.Equal(gone, againGone) || !slices.Equal(l, before) {
			t.Fatalf("Take(%v, %d): %v, %d, %v, and then %v, %d, %v", before, n, left, rest, gone, againLeft, againRest, againGone)
		}
	}
}
