package sat_test

import (
	"math/big"
	"math/rand"
	"testing"

	"barrow/api"
	"barrow/sat"
)

// numbers are the ends, their neighbours, what lies around powers of two and
// around the limit of parts, and some drawn at a fixed seed.
func numbers() []int {
	list := []int{
		api.MinInt, api.MinInt + 1, api.MinInt + 2, api.MaxInt, api.MaxInt - 1, api.MaxInt - 2,
		-api.MaxPart - 1, -api.MaxPart, -api.MaxPart + 1, api.MaxPart - 1, api.MaxPart, api.MaxPart + 1,
		-100, -7, -3, -2, -1, 0, 1, 2, 3, 7, 10, 100, 130,
		3037000499, 3037000500, -3037000499, -3037000500,
	}
	for shift := 15; shift < 63; shift += 8 {
		n := 1 << shift
		list = append(list, n-1, n, n+1, -n-1, -n, -n+1)
	}
	draw := rand.New(rand.NewSource(1))
	for range 40 {
		list = append(list, int(draw.Uint64())>>draw.Intn(63))
	}
	return list
}

// held is what an exact number is within the ends of numbers.
func held(exact *big.Int) int {
	if exact.IsInt64() {
		return int(exact.Int64())
	}
	if exact.Sign() > 0 {
		return api.MaxInt
	}
	return api.MinInt
}

func bigOf(n int) *big.Int { return big.NewInt(int64(n)) }

func TestP1_1Examples(t *testing.T) {
	cases := []struct {
		name      string
		got, want int
	}{
		{"Add(MaxInt, 1)", sat.Add(api.MaxInt, 1), api.MaxInt},
		{"Sub(MinInt, 1)", sat.Sub(api.MinInt, 1), api.MinInt},
		{"Mul(MinInt, -1)", sat.Mul(api.MinInt, -1), api.MaxInt},
		{"Mul(-1, MinInt)", sat.Mul(-1, api.MinInt), api.MaxInt},
		{"Add(MinInt, -1)", sat.Add(api.MinInt, -1), api.MinInt},
		{"Add(MaxInt, MaxInt)", sat.Add(api.MaxInt, api.MaxInt), api.MaxInt},
		{"Add(MinInt, MinInt)", sat.Add(api.MinInt, api.MinInt), api.MinInt},
		{"Add(MaxInt, MinInt)", sat.Add(api.MaxInt, api.MinInt), -1},
		{"Sub(MaxInt, -1)", sat.Sub(api.MaxInt, -1), api.MaxInt},
		{"Sub(0, MinInt)", sat.Sub(0, api.MinInt), api.MaxInt},
		{"Sub(-1, MinInt)", sat.Sub(-1, api.MinInt), api.MaxInt},
		{"Sub(MinInt, MinInt)", sat.Sub(api.MinInt, api.MinInt), 0},
		{"Sub(MinInt, MaxInt)", sat.Sub(api.MinInt, api.MaxInt), api.MinInt},
		{"Mul(MinInt, MinInt)", sat.Mul(api.MinInt, api.MinInt), api.MaxInt},
		{"Mul(MinInt, MaxInt)", sat.Mul(api.MinInt, api.MaxInt), api.MinInt},
		{"Mul(MinInt, 1)", sat.Mul(api.MinInt, 1), api.MinInt},
		{"Mul(MaxInt, -1)", sat.Mul(api.MaxInt, -1), api.MinInt + 1},
		{"Mul(MinInt, 0)", sat.Mul(api.MinInt, 0), 0},
		{"Mul(2^31, -2^32)", sat.Mul(1<<31, -1<<32), api.MinInt},
		{"Mul(6, -7)", sat.Mul(6, -7), -42},
	}
	for _, c := range cases {
		if c.got != c.want {
			t.Errorf("%s: %d, not %d", c.name, c.got, c.want)
		}
	}
}

func TestP1_1SumsAreExactWithinTheEnds(t *testing.T) {
	for _, a := range numbers() {
		for _, b := range numbers() {
			x, y := bigOf(a), bigOf(b)
			if got, want := sat.Add(a, b), held(new(big.Int).Add(x, y)); got != want {
				t.Errorf("Add(%d, %d): %d, not %d", a, b, got, want)
			}
			if got, want := sat.Sub(a, b), held(new(big.Int).Sub(x, y)); got != want {
				t.Errorf("Sub(%d, %d): %d, not %d", a, b, got, want)
			}
			if got, want := sat.Mul(a, b), held(new(big.Int).Mul(x, y)); got != want {
				t.Errorf("Mul(%d, %d): %d, not %d", a, b, got, want)
			}
		}
	}
}

func TestP1_2Clamp(t *testing.T) {
	cases := []struct{ a, lo, hi, want int }{
		{0, 1, 5, 1},
		{1, 1, 5, 1},
		{3, 1, 5, 3},
		{5, 1, 5, 5},
		{6, 1, 5, 5},
		{-9, -5, -1, -5},
		{0, -5, -1, -1},
		{7, 4, 4, 4},
		{1, 4, 4, 4},
		{4, 4, 4, 4},
		// lo above hi: lo, wherever a is
		{0, 5, 1, 5},
		{1, 5, 1, 5},
		{3, 5, 1, 5},
		{5, 5, 1, 5},
		{9, 5, 1, 5},
		{9, 1, 0, 1},
		{0, api.MaxInt, api.MinInt, api.MaxInt},
		{api.MaxInt, 0, -1, 0},
		{api.MaxInt, api.MinInt, api.MaxInt, api.MaxInt},
		{api.MinInt, api.MinInt, api.MaxInt, api.MinInt},
		{api.MinInt, api.MinInt + 1, api.MaxInt, api.MinInt + 1},
		{api.MaxInt, api.MinInt, api.MaxInt - 1, api.MaxInt - 1},
	}
	for _, c := range cases {
		if got := sat.Clamp(c.a, c.lo, c.hi); got != c.want {
			t.Errorf("Clamp(%d, %d, %d): %d, not %d", c.a, c.lo, c.hi, got, c.want)
		}
	}
}

func TestP1_3Part(t *testing.T) {
	const most = api.MaxPart
	cases := []struct{ a, num, den, want int }{
		{-7, 1, 2, -3},
		{10, 130, 100, 13},
		{7, 1, 2, 3},
		{7, -1, 2, -3},
		{-7, -1, 2, 3},
		{0, 5, 3, 0},
		{5, 0, 3, 0},
		{1, 1, api.MaxInt, 0},
		// den below 1
		{5, 1, 0, 0},
		{5, 1, -1, 0},
		{api.MinInt, -1, api.MinInt, 0},
		// a and num at the limit, and one past it
		{most - 1, 1, 1, most - 1},
		{most, 1, 1, most},
		{most + 1, 1, 1, most},
		{-most + 1, 1, 1, -most + 1},
		{-most, 1, 1, -most},
		{-most - 1, 1, 1, -most},
		{1, most - 1, 1, most - 1},
		{1, most, 1, most},
		{1, most + 1, 1, most},
		{1, -most + 1, 1, -most + 1},
		{1, -most, 1, -most},
		{1, -most - 1, 1, -most},
		{api.MaxInt, 1, 1, most},
		{api.MinInt, 1, 1, -most},
		{api.MaxInt, api.MaxInt, 1, most * most},
		{api.MinInt, api.MaxInt, 1, -most * most},
		{api.MinInt, api.MinInt, 1, most * most},
		// den is not clamped
		{most, most, most + 1, most - 1},
		{most, most, most * most, 1},
		{most, most, most*most + 1, 0},
	}
	for _, c := range cases {
		if got := sat.Part(c.a, c.num, c.den); got != c.want {
			t.Errorf("Part(%d, %d, %d): %d, not %d", c.a, c.num, c.den, got, c.want)
		}
	}
}

// exactPart works a part out without bounds; big.Int's Quo rounds towards 0.
func exactPart(a, num, den int) int {
	if den < 1 {
		return 0
	}
	x := bigOf(max(-api.MaxPart, min(a, api.MaxPart)))
	y := bigOf(max(-api.MaxPart, min(num, api.MaxPart)))
	return int(x.Mul(x, y).Quo(x, bigOf(den)).Int64())
}

func TestP1_3PartIsExact(t *testing.T) {
	list := numbers()
	for _, a := range list {
		for _, num := range list {
			for _, den := range list {
				if got, want := sat.Part(a, num, den), exactPart(a, num, den); got != want {
					t.Fatalf("Part(%d, %d, %d): %d, not %d", a, num, den, got, want)
				}
			}
		}
	}
}

func TestP1_3Root(t *testing.T) {
	const rootOfMaxInt = 3037000499
	cases := []struct{ n, want int }{
		{api.MinInt, 0}, {-10, 0}, {-1, 0}, {0, 0},
		{1, 1}, {2, 1}, {3, 1}, {4, 2}, {8, 2}, {9, 3}, {10, 3}, {15, 3}, {16, 4},
		{api.MaxPart, 46340}, {1 << 62, 1 << 31}, {1<<62 - 1, 1<<31 - 1},
		{rootOfMaxInt * rootOfMaxInt, rootOfMaxInt},
		{rootOfMaxInt*rootOfMaxInt - 1, rootOfMaxInt - 1},
		{api.MaxInt - 1, rootOfMaxInt},
		{api.MaxInt, rootOfMaxInt},
	}
	for _, c := range cases {
		if got := sat.Root(c.n); got != c.want {
			t.Errorf("Root(%d): %d, not %d", c.n, got, c.want)
		}
	}
}

func TestP1_3RootIsExact(t *testing.T) {
	check := func(n int) {
		want := 0
		if n > 0 {
			want = int(new(big.Int).Sqrt(bigOf(n)).Int64())
		}
		if got := sat.Root(n); got != want {
			t.Errorf("Root(%d): %d, not %d", n, got, want)
		}
	}
	for n := -10; n < 5000; n++ {
		check(n)
	}
	for _, n := range numbers() {
		check(n)
	}
}

func TestP1_4OrderDoesNotMatter(t *testing.T) {
	for _, a := range numbers() {
		for _, b := range numbers() {
			if sat.Add(a, b) != sat.Add(b, a) {
				t.Errorf("Add of %d, %d: %d, but %d", a, b, sat.Add(a, b), sat.Add(b, a))
			}
			if sat.Mul(a, b) != sat.Mul(b, a) {
				t.Errorf("Mul of %d, %d: %d, but %d", a, b, sat.Mul(a, b), sat.Mul(b, a))
			}
		}
	}
}

func TestP1_4SubIsAddTurnedRound(t *testing.T) {
	for _, a := range numbers() {
		for _, b := range numbers() {
			if b != api.MinInt && sat.Sub(a, b) != sat.Add(a, -b) {
				t.Errorf("Sub(%d, %d): %d, but Add %d", a, b, sat.Sub(a, b), sat.Add(a, -b))
			}
		}
	}
	// MinInt turned round is itself in Go: there the two part.
	if sat.Sub(-2, api.MinInt) != api.MaxInt-1 || sat.Add(-2, api.MinInt) != api.MinInt {
		t.Errorf("of MinInt: %d, %d", sat.Sub(-2, api.MinInt), sat.Add(-2, api.MinInt))
	}
}

func TestP1_4GosOwnWithinTheEnds(t *testing.T) {
	draw := rand.New(rand.NewSource(2))
	for range 10000 {
		a, b := draw.Intn(1<<32)-1<<31, draw.Intn(1<<32)-1<<31
		if sat.Add(a, b) != a+b || sat.Sub(a, b) != a-b || sat.Mul(a, b) != a*b {
			t.Fatalf("%d, %d: %d, %d, %d", a, b, sat.Add(a, b), sat.Sub(a, b), sat.Mul(a, b))
		}
	}
}

func TestP1_5PartLiesBetweenNoughtAndTheWhole(t *testing.T) {
	for _, a := range numbers() {
		for _, num := range numbers() {
			for _, den := range numbers() {
				if num < 0 || num > den {
					continue
				}
				if got := sat.Part(a, num, den); got < min(a, 0) || got > max(a, 0) {
					t.Fatalf("Part(%d, %d, %d): %d", a, num, den, got)
				}
			}
		}
	}
}

func TestP1_5HalvesOfHalvesDoNotGrow(t *testing.T) {
	size := func(n int) int { return max(n, -n) }
	for _, a := range numbers() {
		half := sat.Part(a, 1, 2)
		for half != 0 {
			next := sat.Part(half, 1, 2)
			if size(next) >= size(half) || next != 0 && (next < 0) != (half < 0) {
				t.Fatalf("of %d: the half of %d is %d", a, half, next)
			}
			half = next
		}
	}
}
