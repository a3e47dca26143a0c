package grid_test

import (
	"math/big"
	"math/rand"
	"slices"
	"testing"

	"barrow/api"
	"barrow/grid"
)

// drawn answers the grid of rows of text in which # is a wall.
func drawn(rows ...string) api.Grid {
	g := api.Grid{W: len(rows[0]), H: len(rows)}
	for _, row := range rows {
		for _, c := range row {
			g.Wall = append(g.Wall, c == '#')
		}
	}
	return g
}

// open answers a grid without walls.
func open(w, h int) api.Grid {
	return api.Grid{W: w, H: h, Wall: make([]bool, w*h)}
}

// someGrid answers a right grid with more or fewer walls.
func someGrid(source *rand.Rand, side int) api.Grid {
	g := open(1+source.Intn(side), 1+source.Intn(side))
	rare := 1 + source.Intn(8)
	for i := range g.Wall {
		g.Wall[i] = source.Intn(rare+1) == rare
	}
	return g
}

func someTile(source *rand.Rand, g api.Grid) api.Pos {
	return api.Pos{X: source.Intn(g.W), Y: source.Intn(g.H)}
}

// tilesOf answers all tiles of a grid, row by row.
func tilesOf(g api.Grid) []api.Pos {
	var list []api.Pos
	for i := range g.Wall {
		list = append(list, api.Pos{X: i % g.W, Y: i / g.W})
	}
	return list
}

// wrongGrids are grids that are not right. Of most of them a walk from tile
// to tile could be taken, or a tile be found, if one did not ask.
func wrongGrids() map[string]api.Grid {
	roomy := make([]bool, 8, 9)
	return map[string]api.Grid{
		"nothing":                    {},
		"W 0":                        {W: 0, H: 3},
		"H 0":                        {W: 3, H: 0},
		"W 0, a number":              {W: 0, H: 1, Wall: make([]bool, 1)},
		"W and H 0, a number":        {Wall: make([]bool, 1)},
		"W below 0":                  {W: -1, H: 1, Wall: make([]bool, 1)},
		"H below 0":                  {W: 1, H: -1, Wall: make([]bool, 1)},
		"both below 0":               {W: -1, H: -1, Wall: make([]bool, 1)},
		"both farther below 0":       {W: -3, H: -3, Wall: make([]bool, 9)},
		"W MinInt":                   {W: api.MinInt, H: 2},
		"H MinInt":                   {W: 2, H: api.MinInt},
		"W one above MaxSide":        open(api.MaxSide+1, 1),
		"H one above MaxSide":        open(1, api.MaxSide+1),
		"both one above MaxSide":     open(api.MaxSide+1, api.MaxSide+1),
		"W above, H at MaxSide":      open(api.MaxSide+1, api.MaxSide),
		"W MaxInt":                   {W: api.MaxInt, H: 1, Wall: make([]bool, 9)},
		"H MaxInt":                   {W: 1, H: api.MaxInt, Wall: make([]bool, 9)},
		"a product that wraps to 0":  {W: 1 << 32, H: 1 << 32},
		"a product that wraps to 1":  {W: api.MaxInt, H: api.MaxInt, Wall: make([]bool, 1)},
		"a product that wraps to 9":  {W: 9, H: api.MinInt + 1, Wall: make([]bool, 9)},
		"one number too few":         {W: 3, H: 3, Wall: make([]bool, 8)},
		"one too few, but room":      {W: 3, H: 3, Wall: roomy},
		"one number too many":        {W: 3, H: 3, Wall: make([]bool, 10)},
		"a row too many":             {W: 3, H: 3, Wall: make([]bool, 12)},
		"a row too few":              {W: 3, H: 3, Wall: make([]bool, 6)},
		"no Wall":                    {W: 3, H: 3},
		"no Wall for one tile":       {W: 1, H: 1},
		"two numbers for one tile":   {W: 1, H: 1, Wall: make([]bool, 2)},
		"an empty Wall":              {W: 1, H: 1, Wall: []bool{}},
		"MaxSide, one too few":       {W: api.MaxSide, H: api.MaxSide, Wall: make([]bool, api.MaxSide*api.MaxSide-1)},
		"MaxSide, one too many":      {W: api.MaxSide, H: api.MaxSide, Wall: make([]bool, api.MaxSide*api.MaxSide+1)},
		"MaxSide, and no Wall":       {W: api.MaxSide, H: api.MaxSide},
		"Wall of the sides together": {W: 3, H: 3, Wall: make([]bool, 3+3)},
	}
}

// around are a tile's place and those about it that no grid may mix up.
func around(w, h int) []api.Pos {
	var list []api.Pos
	for _, x := range []int{api.MinInt, -w, -1, 0, 1, w - 1, w, w + 1, 1 << 32, api.MaxInt} {
		for _, y := range []int{api.MinInt, -h, -1, 0, 1, h - 1, h, h + 1, 1 << 32, api.MaxInt} {
			list = append(list, api.Pos{X: x, Y: y})
		}
	}
	return list
}

func TestP6_1Right(t *testing.T) {
	const most = api.MaxSide
	for _, side := range [][2]int{{1, 1}, {1, 2}, {2, 1}, {3, 5}, {1, most}, {most, 1}, {most - 1, most}, {most, most}} {
		if !grid.Right(open(side[0], side[1])) {
			t.Errorf("%d by %d: not right", side[0], side[1])
		}
	}
	for name, g := range wrongGrids() {
		if grid.Right(g) {
			t.Errorf("%s: right", name)
		}
	}
}

func TestP6_1RightWhateverIsAWall(t *testing.T) {
	for _, g := range []api.Grid{drawn("#"), drawn("##", "##"), drawn("#..", ".#.")} {
		if !grid.Right(g) {
			t.Errorf("%v: not right", g)
		}
	}
	roomy := api.Grid{W: 2, H: 2, Wall: make([]bool, 4, 99)}
	if !grid.Right(roomy) {
		t.Error("spare room behind Wall: not right")
	}
}

func TestP6_1InAtEachSide(t *testing.T) {
	for _, side := range [][2]int{{1, 1}, {1, 4}, {4, 1}, {3, 2}, {api.MaxSide, api.MaxSide}} {
		w, h := side[0], side[1]
		g := open(w, h)
		for _, p := range around(w, h) {
			want := p.X >= 0 && p.X <= w-1 && p.Y >= 0 && p.Y <= h-1
			if grid.In(g, p) != want {
				t.Errorf("%d by %d: In %v: %t", w, h, p, !want)
			}
			if grid.Wall(g, p) != !want {
				t.Errorf("%d by %d, open: Wall %v: %t", w, h, p, want)
			}
		}
		for _, p := range []api.Pos{{X: 0, Y: 0}, {X: w - 1, Y: 0}, {X: 0, Y: h - 1}, {X: w - 1, Y: h - 1}} {
			if !grid.In(g, p) || grid.Wall(g, p) {
				t.Errorf("%d by %d: the corner %v: %t, %t", w, h, p, grid.In(g, p), grid.Wall(g, p))
			}
		}
		for _, p := range []api.Pos{{X: -1, Y: 0}, {X: w, Y: 0}, {X: 0, Y: -1}, {X: 0, Y: h}, {X: -1, Y: h - 1}, {X: w, Y: h - 1}, {X: w - 1, Y: -1}, {X: w - 1, Y: h}} {
			if grid.In(g, p) || !grid.Wall(g, p) {
				t.Errorf("%d by %d: beyond, %v: %t, %t", w, h, p, grid.In(g, p), grid.Wall(g, p))
			}
		}
	}
}

func TestP6_1InAndWallOfAGridThatIsNotRight(t *testing.T) {
	for name, g := range wrongGrids() {
		list := append(around(3, 3), api.Pos{X: 2, Y: 2}, api.Pos{X: -1, Y: -1})
		for _, p := range list {
			if grid.In(g, p) || !grid.Wall(g, p) {
				t.Errorf("%s, %v: In %t, Wall %t", name, p, grid.In(g, p), grid.Wall(g, p))
			}
		}
	}
}

func TestP6_1WallIsItsOwnNumber(t *testing.T) {
	g := drawn(
		"#..#",
		"..#.",
		"....")
	walls := []api.Pos{{X: 0, Y: 0}, {X: 3, Y: 0}, {X: 2, Y: 1}}
	for _, p := range tilesOf(g) {
		if got, want := grid.Wall(g, p), slices.Contains(walls, p); got != want {
			t.Errorf("Wall %v: %t", p, got)
		}
		if !grid.In(g, p) {
			t.Errorf("In %v: false", p)
		}
	}
	for i := range g.Wall {
		one := open(g.W, g.H)
		one.Wall[i] = true
		for j, p := range tilesOf(one) {
			if got := grid.Wall(one, p); got != (i == j) {
				t.Errorf("the wall %d alone: Wall %v: %t", i, p, got)
			}
		}
	}
}

// ends are numbers whose differences and squares lie about the ends, among
// ordinary ones.
func ends() []int {
	const root = 3037000499 // of MaxInt
	list := []int{api.MinInt, api.MinInt + 1, api.MaxInt, api.MaxInt - 1, -1 << 62, 1 << 62, 1<<62 - 1}
	for _, n := range []int{0, 1, 2, 3, 4, 255, 256, 1 << 31, root - 1, root, root + 1, 2147483647, root / 2} {
		list = append(list, n, -n)
	}
	return list
}

// places are all pairs of those numbers.
func places() []api.Pos {
	var list []api.Pos
	for _, x := range ends() {
		for _, y := range ends() {
			list = append(list, api.Pos{X: x, Y: y})
		}
	}
	return list
}

// held is what an exact number is within the ends of numbers.
func held(exact *big.Int) int {
	if exact.IsInt64() {
		return int(exact.Int64())
	}
	if exact.Sign() > 0 {
		return api.MaxInt
	}
	return api.MinInt
}

func exactApart(a, b int) *big.Int {
	n := new(big.Int).Sub(big.NewInt(int64(a)), big.NewInt(int64(b)))
	return n.Abs(n)
}

func exactSquare(a, b api.Pos) int {
	x, y := exactApart(a.X, b.X), exactApart(a.Y, b.Y)
	return held(x.Add(x.Mul(x, x), y.Mul(y, y)))
}

func exactNear(a, b api.Pos, r int) bool {
	n := big.NewInt(int64(r))
	return r >= 0 && exactSquare(a, b) <= held(n.Mul(n, n))
}

func exactSteps(a, b api.Pos) int {
	return max(held(exactApart(a.X, b.X)), held(exactApart(a.Y, b.Y)))
}

func TestP6_2Examples(t *testing.T) {
	a, b := api.Pos{}, api.Pos{X: 3, Y: 4}
	if grid.Square(a, b) != 25 || grid.Steps(a, b) != 4 || !grid.Near(a, b, 5) {
		t.Errorf("%d, %d, %t", grid.Square(a, b), grid.Steps(a, b), grid.Near(a, b, 5))
	}
}

func TestP6_2SquareAndSteps(t *testing.T) {
	const root = 3037000499
	cases := []struct {
		a, b          api.Pos
		square, steps int
	}{
		{api.Pos{}, api.Pos{}, 0, 0},
		{api.Pos{X: 7, Y: -7}, api.Pos{X: 7, Y: -7}, 0, 0},
		{api.Pos{}, api.Pos{X: 5}, 25, 5},
		{api.Pos{}, api.Pos{Y: 5}, 25, 5},
		{api.Pos{X: 5, Y: 1}, api.Pos{X: 2, Y: 9}, 73, 8},
		{api.Pos{X: -2, Y: -3}, api.Pos{X: 2, Y: 3}, 52, 6},
		{api.Pos{X: 1, Y: 1}, api.Pos{X: 0, Y: 2}, 2, 1},
		{api.Pos{}, api.Pos{X: root}, root * root, root},
		{api.Pos{}, api.Pos{X: root + 1}, api.MaxInt, root + 1},
		{api.Pos{}, api.Pos{X: root, Y: root}, api.MaxInt, root},
		{api.Pos{X: -1 << 31}, api.Pos{Y: 1 << 30}, 1<<62 + 1<<60, 1 << 31},
		{api.Pos{X: api.MaxInt}, api.Pos{}, api.MaxInt, api.MaxInt},
		{api.Pos{X: api.MinInt}, api.Pos{}, api.MaxInt, api.MaxInt},
		{api.Pos{Y: api.MinInt}, api.Pos{}, api.MaxInt, api.MaxInt},
		{api.Pos{X: api.MinInt}, api.Pos{X: -1}, api.MaxInt, api.MaxInt},
		{api.Pos{X: api.MinInt}, api.Pos{X: -2}, api.MaxInt, api.MaxInt - 1},
		{api.Pos{X: api.MinInt}, api.Pos{X: api.MaxInt}, api.MaxInt, api.MaxInt},
		{api.Pos{Y: api.MinInt}, api.Pos{Y: api.MaxInt}, api.MaxInt, api.MaxInt},
		{api.Pos{X: api.MinInt, Y: api.MinInt}, api.Pos{X: api.MaxInt, Y: api.MaxInt}, api.MaxInt, api.MaxInt},
		{api.Pos{X: api.MinInt, Y: api.MinInt}, api.Pos{X: api.MinInt, Y: api.MinInt}, 0, 0},
		{api.Pos{X: api.MaxInt, Y: api.MaxInt}, api.Pos{X: api.MaxInt - 3, Y: api.MaxInt - 4}, 25, 4},
		{api.Pos{X: api.MinInt, Y: api.MaxInt}, api.Pos{X: api.MinInt + 3, Y: api.MaxInt - 4}, 25, 4},
	}
	for _, c := range cases {
		if got := grid.Square(c.a, c.b); got != c.square {
			t.Errorf("Square(%v, %v): %d, not %d", c.a, c.b, got, c.square)
		}
		if got := grid.Steps(c.a, c.b); got != c.steps {
			t.Errorf("Steps(%v, %v): %d, not %d", c.a, c.b, got, c.steps)
		}
	}
}

func TestP6_2Near(t *testing.T) {
	const root = 3037000499
	cases := []struct {
		a, b api.Pos
		r    int
		want bool
	}{
		{api.Pos{}, api.Pos{}, api.MinInt, false},
		{api.Pos{}, api.Pos{}, -1, false},
		{api.Pos{}, api.Pos{}, 0, true},
		{api.Pos{}, api.Pos{}, 1, true},
		{api.Pos{}, api.Pos{}, api.MaxInt, true},
		{api.Pos{X: 9, Y: 9}, api.Pos{X: 9, Y: 9}, 0, true},
		{api.Pos{}, api.Pos{X: 1}, 0, false},
		{api.Pos{}, api.Pos{Y: 1}, 0, false},
		{api.Pos{}, api.Pos{X: 1}, -1, false},
		{api.Pos{}, api.Pos{X: 1}, 1, true},
		{api.Pos{}, api.Pos{X: -1}, 1, true},
		{api.Pos{}, api.Pos{X: 1, Y: 1}, 1, false},
		{api.Pos{}, api.Pos{X: 1, Y: 1}, 2, true},
		// 25 is just at the square of 5, 26 just above it
		{api.Pos{}, api.Pos{X: 3, Y: 4}, 5, true},
		{api.Pos{}, api.Pos{X: 3, Y: 4}, 4, false},
		{api.Pos{}, api.Pos{X: 3, Y: 4}, -5, false},
		{api.Pos{}, api.Pos{X: 1, Y: 5}, 5, false},
		{api.Pos{}, api.Pos{X: 5, Y: 1}, 5, false},
		{api.Pos{}, api.Pos{X: 0, Y: 5}, 5, true},
		{api.Pos{}, api.Pos{X: 4, Y: 4}, 5, false},
		{api.Pos{X: 2, Y: 2}, api.Pos{X: -1, Y: 6}, 5, true},
		{api.Pos{}, api.Pos{X: root}, root, true},
		{api.Pos{}, api.Pos{X: root, Y: 1}, root, false},
		{api.Pos{}, api.Pos{X: root}, root - 1, false},
		// squares of both that meet the end
		{api.Pos{}, api.Pos{X: root + 1}, root, false},
		{api.Pos{}, api.Pos{X: root + 1}, root + 1, true},
		{api.Pos{}, api.Pos{X: api.MaxInt, Y: api.MinInt}, root, false},
		{api.Pos{}, api.Pos{X: api.MaxInt, Y: api.MinInt}, root + 1, true},
		{api.Pos{X: api.MinInt}, api.Pos{X: api.MaxInt}, api.MaxInt, true},
		{api.Pos{X: api.MinInt}, api.Pos{X: api.MaxInt}, api.MinInt, false},
		{api.Pos{X: api.MinInt}, api.Pos{X: api.MaxInt}, 1 << 32, true},
		{api.Pos{X: api.MinInt}, api.Pos{X: api.MaxInt}, -1 << 32, false},
		{api.Pos{X: api.MinInt}, api.Pos{X: api.MaxInt}, 1, false},
		{api.Pos{X: api.MinInt}, api.Pos{X: api.MaxInt}, 0, false},
	}
	for _, c := range cases {
		if got := grid.Near(c.a, c.b, c.r); got != c.want {
			t.Errorf("Near(%v, %v, %d): %t", c.a, c.b, c.r, got)
		}
	}
}

func TestP6_2AnyPosIsExactUpToTheEnds(t *testing.T) {
	source := rand.New(rand.NewSource(1))
	list := places()
	for range 40000 {
		a, b := list[source.Intn(len(list))], list[source.Intn(len(list))]
		if got, want := grid.Square(a, b), exactSquare(a, b); got != want {
			t.Fatalf("Square(%v, %v): %d, not %d", a, b, got, want)
		}
		if got, want := grid.Steps(a, b), exactSteps(a, b); got != want {
			t.Fatalf("Steps(%v, %v): %d, not %d", a, b, got, want)
		}
		for _, r := range ends() {
			if got, want := grid.Near(a, b, r), exactNear(a, b, r); got != want {
				t.Fatalf("Near(%v, %v, %d): %t", a, b, r, got)
			}
		}
	}
}

// plainToward works out without a walk where so many steps lead, and takes
// the last of them that lies ahead of a wall.
func plainToward(g api.Grid, a, b api.Pos, n int) api.Pos {
	after := func(from, to, steps int) int {
		if from > to {
			return max(to, from-steps)
		}
		return min(to, from+steps)
	}
	last := a
	for i := 1; i <= min(n, api.MaxSide); i++ {
		p := api.Pos{X: after(a.X, b.X, i), Y: after(a.Y, b.Y, i)}
		if g.Wall[p.Y*g.W+p.X] && p != last {
			break
		}
		last = p
	}
	return last
}

func TestP6_3Examples(t *testing.T) {
	if got := grid.Toward(open(9, 9), api.Pos{}, api.Pos{X: 5, Y: 1}, 3); got != (api.Pos{X: 3, Y: 1}) {
		t.Errorf("%v", got)
	}
}

func TestP6_3TowardOnOpenGround(t *testing.T) {
	g := open(9, 7)
	cases := []struct {
		name string
		a, b api.Pos
		n    int
		want api.Pos
	}{
		{"n of MinInt", api.Pos{X: 1, Y: 1}, api.Pos{X: 5, Y: 1}, api.MinInt, api.Pos{X: 1, Y: 1}},
		{"n of -1", api.Pos{X: 1, Y: 1}, api.Pos{X: 5, Y: 1}, -1, api.Pos{X: 1, Y: 1}},
		{"n of 0", api.Pos{X: 1, Y: 1}, api.Pos{X: 5, Y: 1}, 0, api.Pos{X: 1, Y: 1}},
		{"one step sideways", api.Pos{X: 1, Y: 1}, api.Pos{X: 5, Y: 1}, 1, api.Pos{X: 2, Y: 1}},
		{"one fewer than are wanted", api.Pos{X: 1, Y: 1}, api.Pos{X: 5, Y: 1}, 3, api.Pos{X: 4, Y: 1}},
		{"as many as are wanted", api.Pos{X: 1, Y: 1}, api.Pos{X: 5, Y: 1}, 4, api.Pos{X: 5, Y: 1}},
		{"one more than are wanted", api.Pos{X: 1, Y: 1}, api.Pos{X: 5, Y: 1}, 5, api.Pos{X: 5, Y: 1}},
		{"n of MaxInt", api.Pos{X: 1, Y: 1}, api.Pos{X: 5, Y: 1}, api.MaxInt, api.Pos{X: 5, Y: 1}},
		{"sideways the other way", api.Pos{X: 7, Y: 2}, api.Pos{X: 0, Y: 2}, 3, api.Pos{X: 4, Y: 2}},
		{"lengthwise", api.Pos{X: 3, Y: 0}, api.Pos{X: 3, Y: 6}, 4, api.Pos{X: 3, Y: 4}},
		{"lengthwise the other way", api.Pos{X: 3, Y: 6}, api.Pos{X: 3, Y: 0}, 4, api.Pos{X: 3, Y: 2}},
		{"both, one step", api.Pos{X: 1, Y: 1}, api.Pos{X: 4, Y: 4}, 1, api.Pos{X: 2, Y: 2}},
		{"both, all steps", api.Pos{X: 1, Y: 1}, api.Pos{X: 4, Y: 4}, 3, api.Pos{X: 4, Y: 4}},
		{"both, back", api.Pos{X: 4, Y: 4}, api.Pos{X: 1, Y: 1}, 2, api.Pos{X: 2, Y: 2}},
		{"both, crosswise", api.Pos{X: 0, Y: 6}, api.Pos{X: 6, Y: 0}, 2, api.Pos{X: 2, Y: 4}},
		{"more sideways, at the turn", api.Pos{X: 0, Y: 0}, api.Pos{X: 8, Y: 2}, 2, api.Pos{X: 2, Y: 2}},
		{"more sideways, behind the turn", api.Pos{X: 0, Y: 0}, api.Pos{X: 8, Y: 2}, 3, api.Pos{X: 3, Y: 2}},
		{"more sideways, the last step", api.Pos{X: 0, Y: 0}, api.Pos{X: 8, Y: 2}, 7, api.Pos{X: 7, Y: 2}},
		{"more sideways, all steps", api.Pos{X: 0, Y: 0}, api.Pos{X: 8, Y: 2}, 8, api.Pos{X: 8, Y: 2}},
		{"more lengthwise", api.Pos{X: 5, Y: 6}, api.Pos{X: 4, Y: 0}, 3, api.Pos{X: 4, Y: 3}},
		{"to itself, n of 0", api.Pos{X: 4, Y: 4}, api.Pos{X: 4, Y: 4}, 0, api.Pos{X: 4, Y: 4}},
		{"to itself", api.Pos{X: 4, Y: 4}, api.Pos{X: 4, Y: 4}, 3, api.Pos{X: 4, Y: 4}},
		{"to itself, n of MaxInt", api.Pos{X: 4, Y: 4}, api.Pos{X: 4, Y: 4}, api.MaxInt, api.Pos{X: 4, Y: 4}},
		{"corner to corner", api.Pos{X: 0, Y: 0}, api.Pos{X: 8, Y: 6}, 8, api.Pos{X: 8, Y: 6}},
	}
	for _, c := range cases {
		if got := grid.Toward(g, c.a, c.b, c.n); got != c.want {
			t.Errorf("%s: %v, not %v", c.name, got, c.want)
		}
	}
	one := open(1, 1)
	for _, n := range []int{api.MinInt, -1, 0, 1, api.MaxInt} {
		if got := grid.Toward(one, api.Pos{}, api.Pos{}, n); got != (api.Pos{}) {
			t.Errorf("of one tile, n %d: %v", n, got)
		}
	}
	most := open(api.MaxSide, api.MaxSide)
	end := api.Pos{X: api.MaxSide - 1, Y: api.MaxSide - 1}
	if got := grid.Toward(most, api.Pos{}, end, api.MaxSide-1); got != end {
		t.Errorf("over the greatest map: %v", got)
	}
	if got := grid.Toward(most, end, api.Pos{}, api.MaxSide-2); got != (api.Pos{X: 1, Y: 1}) {
		t.Errorf("over the greatest map and back: %v", got)
	}
}

func TestP6_3TowardStopsAheadOfAWall(t *testing.T) {
	left, right := api.Pos{X: 0, Y: 0}, api.Pos{X: 5, Y: 0}
	down := api.Pos{X: 5, Y: 5}
	diagonal := func(x int) api.Grid {
		g := open(6, 6)
		g.Wall[x*6+x] = true
		return g
	}
	cases := []struct {
		name string
		g    api.Grid
		a, b api.Pos
		n    int
		want api.Pos
	}{
		{"on the first tile", drawn(".#...."), left, right, 9, left},
		{"on the first tile, one step", drawn(".#...."), left, right, 1, left},
		{"on the first tile, no step", drawn(".#...."), left, right, 0, left},
		{"on a later tile", drawn("...#.."), left, right, 9, api.Pos{X: 2}},
		{"on a later tile, up to it", drawn("...#.."), left, right, 2, api.Pos{X: 2}},
		{"on a later tile, one step more", drawn("...#.."), left, right, 3, api.Pos{X: 2}},
		{"on a later tile, not that far", drawn("...#.."), left, right, 1, api.Pos{X: 1}},
		{"on the last tile", drawn(".....#"), left, right, 9, api.Pos{X: 4}},
		{"on the last tile, as many steps", drawn(".....#"), left, right, 5, api.Pos{X: 4}},
		{"on the last tile, fewer steps", drawn(".....#"), left, right, 3, api.Pos{X: 3}},
		{"the first of two", drawn("..#.#."), left, right, 9, api.Pos{X: 1}},
		{"from the other side", drawn("..#.#."), right, left, 9, right},
		{"from the other side, a later one", drawn(".#...."), right, left, 9, api.Pos{X: 2}},
		{"behind the goal", drawn("...#.."), left, api.Pos{X: 2}, 9, api.Pos{X: 2}},
		{"behind the start", drawn(".#...."), api.Pos{X: 2}, right, 9, right},
		{"from a wall", drawn("#....."), left, right, 2, api.Pos{X: 2}},
		{"from a wall to the end", drawn("#....."), left, right, 9, right},
		{"from a wall into a wall", drawn("##...."), left, right, 9, left},
		{"from a wall to itself", drawn("#....."), left, left, 9, left},
		{"from a wall, no step", drawn("#....."), left, right, 0, left},
		{"all walls", drawn("######"), left, right, 9, left},
		{"both ways, the first tile", diagonal(1), left, down, 9, left},
		{"both ways, a later tile", diagonal(3), left, down, 9, api.Pos{X: 2, Y: 2}},
		{"both ways, the last tile", diagonal(5), left, down, 9, api.Pos{X: 4, Y: 4}},
		{"lengthwise", drawn(".", ".", "#", "."), left, api.Pos{Y: 3}, 9, api.Pos{Y: 1}},
		{"lengthwise, back", drawn(".", "#", ".", "."), api.Pos{Y: 3}, left, 9, api.Pos{Y: 2}},
		{"between two corners", drawn(".#", "#."), left, api.Pos{X: 1, Y: 1}, 9, api.Pos{X: 1, Y: 1}},
		{"between two corners, crosswise", drawn("#.", ".#"), api.Pos{Y: 1}, api.Pos{X: 1}, 9, api.Pos{X: 1}},
		{"no way round", drawn(".#.", "..."), left, api.Pos{X: 2}, 9, left},
		{"a wall beside the way", drawn("...", "###"), left, api.Pos{X: 2}, 9, api.Pos{X: 2}},
		{"a wall behind the turn", drawn("....", "..#."), left, api.Pos{X: 3, Y: 1}, 9, api.Pos{X: 1, Y: 1}},
		{"a wall at the turn", drawn("....", ".#.."), left, api.Pos{X: 3, Y: 1}, 9, left},
	}
	for _, c := range cases {
		if got := grid.Toward(c.g, c.a, c.b, c.n); got != c.want {
			t.Errorf("%s: %v, not %v", c.name, got, c.want)
		}
	}
}

func TestP6_3TowardOfNoTile(t *testing.T) {
	g := open(4, 3)
	for _, beyond := range around(4, 3) {
		if grid.In(g, beyond) {
			continue
		}
		for _, tile := range tilesOf(g) {
			for _, n := range []int{-1, 0, 1, 5, api.MaxInt} {
				if got := grid.Toward(g, beyond, tile, n); got != beyond {
					t.Fatalf("from %v to %v by %d: %v", beyond, tile, n, got)
				}
				if got := grid.Toward(g, tile, beyond, n); got != tile {
					t.Fatalf("from %v to %v by %d: %v", tile, beyond, n, got)
				}
				if got := grid.Toward(g, beyond, api.Pos{X: -1, Y: -1}, n); got != beyond {
					t.Fatalf("from %v to no tile by %d: %v", beyond, n, got)
				}
			}
		}
	}
}

func TestP6_3TowardOfAGridThatIsNotRight(t *testing.T) {
	for name, g := range wrongGrids() {
		for _, a := range append(around(3, 3), api.Pos{X: 1, Y: 2}) {
			for _, b := range []api.Pos{{X: 0, Y: 0}, {X: 2, Y: 0}, {X: 0, Y: 1}, {X: -1, Y: -2}} {
				for _, n := range []int{-1, 0, 1, 2, api.MaxInt} {
					if got := grid.Toward(g, a, b, n); got != a {
						t.Fatalf("%s: from %v to %v by %d: %v", name, a, b, n, got)
					}
				}
			}
		}
	}
}

func TestP6_3TowardIsThePlainWalk(t *testing.T) {
	source := rand.New(rand.NewSource(2))
	for range 4000 {
		g := someGrid(source, 14)
		a, b := someTile(source, g), someTile(source, g)
		for n := -2; n <= 15; n++ {
			if got, want := grid.Toward(g, a, b, n), plainToward(g, a, b, n); got != want {
				t.Fatalf("%v: from %v to %v by %d: %v, not %v", g, a, b, n, got, want)
			}
		}
	}
}

// plainAround asks each tile of a right grid.
func plainAround(g api.Grid, p api.Pos, r int) []api.Pos {
	var list []api.Pos
	for i, tile := range tilesOf(g) {
		if !g.Wall[i] && r <= api.MaxSide && exactNear(p, tile, r) {
			list = append(list, tile)
		}
	}
	return list
}

// tile and tiles spell places short.
func tile(x, y int) api.Pos { return api.Pos{X: x, Y: y} }

func tiles(list ...int) []api.Pos {
	var answer []api.Pos
	for i := 0; i < len(list); i += 2 {
		answer = append(answer, tile(list[i], list[i+1]))
	}
	return answer
}

func TestP6_4Around(t *testing.T) {
	const most = api.MaxSide
	three := open(3, 3)
	walls := drawn(
		"..#..",
		".#.#.",
		"#...#",
		"..#..")
	cases := []struct {
		name string
		g    api.Grid
		p    api.Pos
		r    int
		want []api.Pos
	}{
		{"r of MinInt", three, tile(1, 1), api.MinInt, nil},
		{"r of -1", three, tile(1, 1), -1, nil},
		{"r of -2", three, tile(1, 1), -2, nil},
		{"r of 0", three, tile(1, 1), 0, tiles(1, 1)},
		{"r of 1", three, tile(1, 1), 1, tiles(1, 0, 0, 1, 1, 1, 2, 1, 1, 2)},
		{"r of 2", three, tile(1, 1), 2, tilesOf(three)},
		{"r of MaxSide", three, tile(1, 1), most, tilesOf(three)},
		{"r of MaxSide + 1", three, tile(1, 1), most + 1, nil},
		{"r of 2^32", three, tile(1, 1), 1 << 32, nil},
		{"r of MaxInt", three, tile(1, 1), api.MaxInt, nil},
		{"the first corner, r of 1", three, tile(0, 0), 1, tiles(0, 0, 1, 0, 0, 1)},
		{"the first corner, r of 2", three, tile(0, 0), 2, tiles(0, 0, 1, 0, 2, 0, 0, 1, 1, 1, 0, 2)},
		{"the second corner", three, tile(2, 0), 1, tiles(1, 0, 2, 0, 2, 1)},
		{"the third corner", three, tile(0, 2), 1, tiles(0, 1, 0, 2, 1, 2)},
		{"the last corner", three, tile(2, 2), 1, tiles(2, 1, 1, 2, 2, 2)},
		{"a side", three, tile(2, 1), 1, tiles(2, 0, 1, 1, 2, 1, 2, 2)},
		{"one tile", open(1, 1), tile(0, 0), 0, tiles(0, 0)},
		{"one tile, r of MaxSide", open(1, 1), tile(0, 0), most, tiles(0, 0)},
		{"one wall", drawn("#"), tile(0, 0), most, nil},
		{"just beyond, r of 0", three, tile(-1, 0), 0, nil},
		{"just beyond, left", three, tile(-1, 0), 1, tiles(0, 0)},
		{"just beyond, right", three, tile(3, 2), 1, tiles(2, 2)},
		{"just beyond, above", three, tile(1, -1), 1, tiles(1, 0)},
		{"just beyond, below", three, tile(1, 3), 1, tiles(1, 2)},
		{"just beyond a corner, r of 1", three, tile(-1, -1), 1, nil},
		{"just beyond a corner, r of 2", three, tile(-1, -1), 2, tiles(0, 0)},
		{"two beyond, r of 1", three, tile(-2, 0), 1, nil},
		{"MaxSide beyond", three, tile(-most, 0), most, tiles(0, 0)},
		{"MaxSide beyond, below", three, tile(1, 2+most), most, tiles(1, 2)},
		{"MaxSide and one beyond", three, tile(-most-1, 0), most, nil},
		{"at the least ends", three, tile(api.MinInt, api.MinInt), most, nil},
		{"at the greatest ends", three, tile(api.MaxInt, api.MaxInt), most, nil},
		{"at an end sideways", three, tile(api.MaxInt, 1), most, nil},
		{"at an end lengthwise", three, tile(1, api.MinInt), most, nil},
		{"at an end, r below 0", three, tile(api.MinInt, api.MaxInt), api.MinInt, nil},
		{"2^32 beyond", three, tile(1<<32, 1<<32), most, nil},
		{"walls between", walls, tile(2, 2), 2, tiles(2, 1, 1, 2, 2, 2, 3, 2, 1, 3, 3, 3)},
		{"walls do not stand in the way", drawn("#.#.#"), tile(0, 0), 3, tiles(1, 0, 3, 0)},
		{"of a p that is a wall", walls, tile(2, 0), 1, tiles(1, 0, 3, 0, 2, 1)},
		{"of a p that is a wall, r of 0", walls, tile(2, 0), 0, nil},
		{"all walls", drawn("##", "##"), tile(0, 0), 5, nil},
	}
	for _, c := range cases {
		if got := grid.Around(c.g, c.p, c.r); !slices.Equal(got, c.want) {
			t.Errorf("%s: %v, not %v", c.name, got, c.want)
		}
	}
}

func TestP6_4AroundOfAGridThatIsNotRight(t *testing.T) {
	for name, g := range wrongGrids() {
		for _, p := range append(around(3, 3), tile(2, 2), tile(-1, -1)) {
			for _, r := range []int{-1, 0, 1, 2, api.MaxSide, api.MaxSide + 1, api.MaxInt} {
				if got := grid.Around(g, p, r); len(got) != 0 {
					t.Fatalf("%s: about %v by %d: %v", name, p, r, got)
				}
			}
		}
	}
}

func TestP6_4AroundAsksEachTile(t *testing.T) {
	source := rand.New(rand.NewSource(3))
	for range 1500 {
		g := someGrid(source, 12)
		p := tile(source.Intn(g.W+8)-4, source.Intn(g.H+8)-4)
		for r := -2; r <= 14; r++ {
			if got, want := grid.Around(g, p, r), plainAround(g, p, r); !slices.Equal(got, want) {
				t.Fatalf("%v about %v by %d: %v, not %v", g, p, r, got, want)
			}
		}
	}
}

func TestP6_4AroundOnTheGreatestMap(t *testing.T) {
	const most = api.MaxSide
	source := rand.New(rand.NewSource(4))
	g := open(most, most)
	for i := range g.Wall {
		g.Wall[i] = source.Intn(20) == 0
	}
	for _, p := range []api.Pos{tile(0, 0), tile(most-1, most-1), tile(most/2, 3), tile(-100, 300)} {
		for _, r := range []int{0, 1, most / 2, most - 1, most} {
			if got, want := grid.Around(g, p, r), plainAround(g, p, r); !slices.Equal(got, want) {
				t.Errorf("about %v by %d: %d tiles, not %d", p, r, len(got), len(want))
			}
		}
		for _, r := range []int{most + 1, 2 * most, api.MaxInt} {
			if got := grid.Around(g, p, r); len(got) != 0 {
				t.Errorf("about %v by %d: %d tiles", p, r, len(got))
			}
		}
	}
}

// guarded answers a grid with spare room behind its Wall, and a check that
// neither has changed.
func guarded(t *testing.T, g api.Grid) (api.Grid, func(string)) {
	t.Helper()
	whole := append(slices.Clone(g.Wall), true, false, true, false, true)
	before := slices.Clone(whole)
	g.Wall = whole[:len(g.Wall)]
	return g, func(call string) {
		t.Helper()
		if !slices.Equal(whole, before) {
			t.Errorf("%s has turned Wall or what is behind it", call)
		}
	}
}

func TestP6_5ArgumentsAreNotChanged(t *testing.T) {
	source := rand.New(rand.NewSource(5))
	for range 200 {
		g, check := guarded(t, someGrid(source, 6))
		a, b := someTile(source, g), someTile(source, g)
		grid.Right(g)
		grid.In(g, a)
		grid.Wall(g, a)
		check("an asking")
		grid.Toward(g, a, b, 4)
		check("Toward")
		grid.Around(g, a, 3)
		check("Around")
		g.H++
		grid.Right(g)
		grid.Toward(g, a, b, 4)
		grid.Around(g, a, 3)
		check("a call on a grid that is not right")
	}
}

func TestP6_5ArgumentsAreNotKept(t *testing.T) {
	g := open(5, 1)
	want := tilesOf(g)
	list := grid.Around(g, tile(2, 0), 4)
	if end := grid.Toward(g, tile(0, 0), tile(4, 0), 4); end != tile(4, 0) {
		t.Errorf("%v", end)
	}
	g.Wall[3] = true
	if !slices.Equal(list, want) {
		t.Errorf("a wall more turned what was answered: %v", list)
	}
	if got := grid.Around(g, tile(2, 0), 4); !slices.Equal(got, tiles(0, 0, 1, 0, 2, 0, 4, 0)) {
		t.Errorf("Around behind a wall more: %v", got)
	}
	if end := grid.Toward(g, tile(0, 0), tile(4, 0), 4); end != tile(2, 0) {
		t.Errorf("Toward behind a wall more: %v", end)
	}
	if !grid.Wall(g, tile(3, 0)) {
		t.Error("Wall behind a wall more")
	}
}

func TestP6_5AnswersAreNewMemory(t *testing.T) {
	g, check := guarded(t, drawn("..#.", "....", "#..."))
	first, second := grid.Around(g, tile(1, 1), 2), grid.Around(g, tile(1, 1), 2)
	want := plainAround(g, tile(1, 1), 2)
	if !slices.Equal(first, want) || !slices.Equal(second, want) {
		t.Fatalf("%v, %v, not %v", first, second, want)
	}
	spoil := first[:cap(first)]
	for i := range spoil {
		spoil[i] = tile(-9, -9)
	}
	check("writing over an answer")
	if !slices.Equal(second, want) {
		t.Errorf("the second answer is %v by now", second)
	}
	if third := grid.Around(g, tile(1, 1), 2); !slices.Equal(third, want) {
		t.Errorf("the third answer is %v", third)
	}
}

func TestP6_5CallsAnswerAlikeAgain(t *testing.T) {
	source := rand.New(rand.NewSource(6))
	for range 200 {
		g, other := someGrid(source, 8), someGrid(source, 8)
		a, b := someTile(source, g), someTile(source, g)
		end, list := grid.Toward(g, a, b, 3), grid.Around(g, a, 3)
		grid.Toward(other, tile(0, 0), someTile(source, other), 3)
		grid.Around(other, tile(0, 0), 3)
		if got := grid.Toward(g, a, b, 3); got != end {
			t.Fatalf("Toward: %v, and then %v", end, got)
		}
		if got := grid.Around(g, a, 3); !slices.Equal(got, list) {
			t.Fatalf("Around: %v, and then %v", list, got)
		}
	}
}

func TestP6_6AlikeBothWays(t *testing.T) {
	source := rand.New(rand.NewSource(7))
	list := places()
	for range 100000 {
		a, b := list[source.Intn(len(list))], list[source.Intn(len(list))]
		square, steps := grid.Square(a, b), grid.Steps(a, b)
		if grid.Square(b, a) != square {
			t.Fatalf("Square of %v, %v: %d, but %d", a, b, square, grid.Square(b, a))
		}
		if grid.Steps(b, a) != steps {
			t.Fatalf("Steps of %v, %v: %d, but %d", a, b, steps, grid.Steps(b, a))
		}
		if square < 0 || steps < 0 || (square == 0) != (a == b) || (steps == 0) != (a == b) {
			t.Fatalf("of %v, %v: %d, %d", a, b, square, steps)
		}
	}
}

func TestP6_6NoughtJustOfOneTile(t *testing.T) {
	for _, a := range places() {
		if grid.Square(a, a) != 0 || grid.Steps(a, a) != 0 || !grid.Near(a, a, 0) {
			t.Errorf("%v: %d, %d", a, grid.Square(a, a), grid.Steps(a, a))
		}
	}
	g := open(5, 4)
	for _, a := range tilesOf(g) {
		for _, b := range tilesOf(g) {
			if a != b && (grid.Square(a, b) < 1 || grid.Steps(a, b) < 1 || grid.Near(a, b, 0)) {
				t.Errorf("%v, %v: %d, %d", a, b, grid.Square(a, b), grid.Steps(a, b))
			}
		}
	}
}

func TestP6_6WhatIsNearIsWithinAsManySteps(t *testing.T) {
	g := open(9, 8)
	for _, a := range tilesOf(g) {
		for _, b := range tilesOf(g) {
			for r := -1; r <= 13; r++ {
				if grid.Near(a, b, r) && grid.Steps(a, b) > r {
					t.Fatalf("%v, %v: Near by %d, %d steps", a, b, r, grid.Steps(a, b))
				}
			}
		}
	}
}

func TestP6_7AtMostNStepsNearerEachAndIntoNoWall(t *testing.T) {
	source := rand.New(rand.NewSource(8))
	for range 4000 {
		g := someGrid(source, 12)
		a, b := someTile(source, g), someTile(source, g)
		at, stopped := a, false
		for n := range 13 {
			next := grid.Toward(g, a, b, n)
			if grid.Steps(a, next) > n || !grid.In(g, next) || next != a && grid.Wall(g, next) {
				t.Fatalf("%v: from %v to %v by %d: %v", g, a, b, n, next)
			}
			if next == at {
				stopped = stopped || n > 0
				continue
			}
			nearer := grid.Square(next, b) < grid.Square(at, b) && grid.Steps(next, b) == grid.Steps(at, b)-1
			if stopped || grid.Steps(at, next) != 1 || !nearer {
				t.Fatalf("%v: from %v to %v: %v, and by the step %d %v", g, a, b, at, n, next)
			}
			at = next
		}
	}
}

func TestP6_7TwoWalksAreOneLongerOne(t *testing.T) {
	source := rand.New(rand.NewSource(9))
	for range 2000 {
		g := someGrid(source, 12)
		a, b := someTile(source, g), someTile(source, g)
		for first := range 7 {
			for second := range 7 {
				between := grid.Toward(g, a, b, first)
				two, one := grid.Toward(g, between, b, second), grid.Toward(g, a, b, first+second)
				if two != one {
					t.Fatalf("%v: from %v to %v by %d and %d: %v, at once %v", g, a, b, first, second, two, one)
				}
			}
		}
	}
}
