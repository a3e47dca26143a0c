package sight_test

import (
	"math/rand"
	"slices"
	"testing"

	"barrow/api"
	"barrow/grid"
	"barrow/sight"
)

// drawn answers the grid of rows of text in which # is a wall.
func drawn(rows ...string) api.Grid {
	g := api.Grid{W: len(rows[0]), H: len(rows)}
	for _, row := range rows {
		for _, c := range row {
			g.Wall = append(g.Wall, c == '#')
		}
	}
	return g
}

// open answers a grid without walls.
func open(w, h int) api.Grid {
	return api.Grid{W: w, H: h, Wall: make([]bool, w*h)}
}

// walled answers an open grid of which these tiles are walls.
func walled(w, h int, walls ...api.Pos) api.Grid {
	g := open(w, h)
	for _, p := range walls {
		g.Wall[p.Y*w+p.X] = true
	}
	return g
}

// full answers a grid all of whose tiles are walls.
func full(w, h int) api.Grid {
	return walled(w, h, tilesOf(open(w, h))...)
}

// someGrid answers a right grid with more or fewer walls.
func someGrid(source *rand.Rand, side int) api.Grid {
	g := open(1+source.Intn(side), 1+source.Intn(side))
	rare := 1 + source.Intn(12)
	for i := range g.Wall {
		g.Wall[i] = source.Intn(rare+1) == rare
	}
	return g
}

func someTile(source *rand.Rand, g api.Grid) api.Pos {
	return tile(source.Intn(g.W), source.Intn(g.H))
}

// tilesOf answers all tiles of a grid, row by row.
func tilesOf(g api.Grid) []api.Pos {
	var list []api.Pos
	for i := range g.Wall {
		list = append(list, tile(i%g.W, i/g.W))
	}
	return list
}

// tile and tiles spell places short.
func tile(x, y int) api.Pos { return api.Pos{X: x, Y: y} }

func tiles(list ...int) []api.Pos {
	var answer []api.Pos
	for i := 0; i < len(list); i += 2 {
		answer = append(answer, tile(list[i], list[i+1]))
	}
	return answer
}

// beyond are places that are no tiles of a grid of these sides, of most of
// which another one would come, if a number wrapped or was not asked.
func beyond(w, h int) []api.Pos {
	var list []api.Pos
	for _, x := range []int{api.MinInt, -w, -1, 0, w - 1, w, w + 1, 1 << 32, api.MaxInt} {
		for _, y := range []int{api.MinInt, -h, -1, 0, h - 1, h, h + 1, 1 << 32, api.MaxInt} {
			if x < 0 || x >= w || y < 0 || y >= h {
				list = append(list, tile(x, y))
			}
		}
	}
	return list
}

// wrongGrids are grids that are not right.
func wrongGrids() map[string]api.Grid {
	roomy := make([]bool, 8, 9)
	return map[string]api.Grid{
		"nothing":                   {},
		"W 0":                       {W: 0, H: 3},
		"H 0":                       {W: 3, H: 0},
		"both below 0":              {W: -3, H: -3, Wall: make([]bool, 9)},
		"W one above MaxSide":       open(api.MaxSide+1, 3),
		"H one above MaxSide":       open(3, api.MaxSide+1),
		"W MaxInt":                  {W: api.MaxInt, H: 3, Wall: make([]bool, 9)},
		"a product that wraps to 0": {W: 1 << 32, H: 1 << 32},
		"a product that wraps to 1": {W: api.MaxInt, H: api.MaxInt, Wall: make([]bool, 1)},
		"one number too few":        {W: 3, H: 3, Wall: make([]bool, 8)},
		"one too few, but room":     {W: 3, H: 3, Wall: roomy},
		"one number too many":       {W: 3, H: 3, Wall: make([]bool, 10)},
		"no Wall":                   {W: 3, H: 3},
	}
}

// touches tells by the four corners of a tile, all told twice, whether the
// straight line through the middles of a and b touches it: it does not where
// all of them lie on one side of it.
func touches(a, b, p api.Pos) bool {
	if a == b {
		return p == a
	}
	left, right := 0, 0
	for _, x := range []int{2*p.X - 1, 2*p.X + 1} {
		for _, y := range []int{2*p.Y - 1, 2*p.Y + 1} {
			turn := (b.X-a.X)*(y-2*a.Y) - (b.Y-a.Y)*(x-2*a.X)
			if turn < 0 {
				left++
			}
			if turn > 0 {
				right++
			}
		}
	}
	return left < 4 && right < 4
}

// plainLine asks each tile between two tiles of a right grid.
func plainLine(a, b api.Pos) []api.Pos {
	var list []api.Pos
	for y := min(a.Y, b.Y); y <= max(a.Y, b.Y); y++ {
		for x := min(a.X, b.X); x <= max(a.X, b.X); x++ {
			if touches(a, b, tile(x, y)) {
				list = append(list, tile(x, y))
			}
		}
	}
	return list
}

// plainWalls are the walls of the line, but its ends.
func plainWalls(g api.Grid, a, b api.Pos) []api.Pos {
	var list []api.Pos
	for _, p := range plainLine(a, b) {
		if p != a && p != b && g.Wall[p.Y*g.W+p.X] {
			list = append(list, p)
		}
	}
	return list
}

func plainFirst(g api.Grid, a, b api.Pos) (api.Pos, bool) {
	walls := plainWalls(g, a, b)
	if len(walls) == 0 {
		return api.Pos{}, false
	}
	return slices.MinFunc(walls, func(p, q api.Pos) int { return far(a, p) - far(a, q) }), true
}

func far(a, b api.Pos) int { return (a.X-b.X)*(a.X-b.X) + (a.Y-b.Y)*(a.Y-b.Y) }

// plainSeen asks each tile of a right grid from one of its tiles.
func plainSeen(g api.Grid, a api.Pos, r int) []api.Pos {
	var list []api.Pos
	for i, p := range tilesOf(g) {
		if r >= 0 && r <= api.MaxSide && far(a, p) <= r*r && !g.Wall[i] && len(plainWalls(g, a, p)) == 0 {
			list = append(list, p)
		}
	}
	return list
}

// bothWays holds the line of two tiles against the tiles that it is to be,
// from either end.
func bothWays(t *testing.T, g api.Grid, a, b api.Pos, want []api.Pos) {
	t.Helper()
	if got := sight.Line(g, a, b); !slices.Equal(got, want) {
		t.Errorf("from %v to %v: %v, not %v", a, b, got, want)
	}
	if got := sight.Line(g, b, a); !slices.Equal(got, want) {
		t.Errorf("from %v back to %v: %v, not %v", b, a, got, want)
	}
}

func TestP7_1Examples(t *testing.T) {
	g := open(4, 3)
	bothWays(t, g, tile(0, 0), tile(2, 2), tiles(0, 0, 1, 0, 0, 1, 1, 1, 2, 1, 1, 2, 2, 2))
	bothWays(t, g, tile(0, 0), tile(3, 1), tiles(0, 0, 1, 0, 2, 0, 1, 1, 2, 1, 3, 1))
}

func TestP7_1Line(t *testing.T) {
	g := open(7, 7)
	cases := []struct {
		name string
		a, b api.Pos
		want []api.Pos
	}{
		{"to itself", tile(3, 3), tile(3, 3), tiles(3, 3)},
		{"to itself, the first corner", tile(0, 0), tile(0, 0), tiles(0, 0)},
		{"to itself, the last corner", tile(6, 6), tile(6, 6), tiles(6, 6)},
		{"sideways, one", tile(2, 3), tile(3, 3), tiles(2, 3, 3, 3)},
		{"sideways", tile(2, 3), tile(5, 3), tiles(2, 3, 3, 3, 4, 3, 5, 3)},
		{"sideways, a whole row", tile(0, 6), tile(6, 6), tiles(0, 6, 1, 6, 2, 6, 3, 6, 4, 6, 5, 6, 6, 6)},
		{"lengthwise, one", tile(3, 2), tile(3, 3), tiles(3, 2, 3, 3)},
		{"lengthwise", tile(3, 1), tile(3, 4), tiles(3, 1, 3, 2, 3, 3, 3, 4)},
		{"lengthwise, a whole row", tile(6, 0), tile(6, 6), tiles(6, 0, 6, 1, 6, 2, 6, 3, 6, 4, 6, 5, 6, 6)},
		{"a diagonal, one", tile(2, 2), tile(3, 3), tiles(2, 2, 3, 2, 2, 3, 3, 3)},
		{"a diagonal", tile(1, 2), tile(3, 4), tiles(1, 2, 2, 2, 1, 3, 2, 3, 3, 3, 2, 4, 3, 4)},
		{"the other diagonal, one", tile(3, 2), tile(2, 3), tiles(2, 2, 3, 2, 2, 3, 3, 3)},
		{"the other diagonal", tile(3, 2), tile(1, 4), tiles(2, 2, 3, 2, 1, 3, 2, 3, 3, 3, 1, 4, 2, 4)},
		{"two and one, no corner", tile(0, 0), tile(2, 1), tiles(0, 0, 1, 0, 1, 1, 2, 1)},
		{"two and one, leftward", tile(2, 0), tile(0, 1), tiles(1, 0, 2, 0, 0, 1, 1, 1)},
		{"one and two, no corner", tile(0, 0), tile(1, 2), tiles(0, 0, 0, 1, 1, 1, 1, 2)},
		{"one and two, leftward", tile(1, 0), tile(0, 2), tiles(1, 0, 0, 1, 1, 1, 0, 2)},
		{"a corner, leftward", tile(3, 0), tile(0, 1), tiles(1, 0, 2, 0, 3, 0, 0, 1, 1, 1, 2, 1)},
		{"a corner, steep", tile(0, 0), tile(1, 3), tiles(0, 0, 0, 1, 1, 1, 0, 2, 1, 2, 1, 3)},
		{"a corner, steep, leftward", tile(1, 0), tile(0, 3), tiles(1, 0, 0, 1, 1, 1, 0, 2, 1, 2, 0, 3)},
		{"two corners", tile(0, 0), tile(6, 2), tiles(
			0, 0, 1, 0, 2, 0,
			1, 1, 2, 1, 3, 1, 4, 1, 5, 1,
			4, 2, 5, 2, 6, 2)},
		{"three and two, no corner", tile(0, 0), tile(3, 2), tiles(0, 0, 1, 0, 1, 1, 2, 1, 2, 2, 3, 2)},
		{"five and three, a corner", tile(0, 0), tile(5, 3), tiles(
			0, 0, 1, 0,
			1, 1, 2, 1, 3, 1,
			2, 2, 3, 2, 4, 2,
			4, 3, 5, 3)},
		{"four and one, no corner", tile(1, 5), tile(5, 6), tiles(1, 5, 2, 5, 3, 5, 3, 6, 4, 6, 5, 6)},
	}
	for _, c := range cases {
		t.Run(c.name, func(t *testing.T) { bothWays(t, g, c.a, c.b, c.want) })
	}
}

func TestP7_1LineIsThePlainLine(t *testing.T) {
	for _, side := range [][2]int{{1, 1}, {9, 1}, {1, 9}, {9, 8}} {
		g := open(side[0], side[1])
		for _, a := range tilesOf(g) {
			for _, b := range tilesOf(g) {
				if got, want := sight.Line(g, a, b), plainLine(a, b); !slices.Equal(got, want) {
					t.Fatalf("from %v to %v: %v, not %v", a, b, got, want)
				}
			}
		}
	}
}

func TestP7_1LineOnTheGreatestMap(t *testing.T) {
	const last = api.MaxSide - 1
	g := open(api.MaxSide, api.MaxSide)
	list := tiles(0, 0, last, 0, 0, last, last, last, 1, last, last, 1, last/2, last/3, 100, 7)
	source := rand.New(rand.NewSource(1))
	for range 12 {
		list = append(list, someTile(source, g))
	}
	for _, a := range list {
		for _, b := range list {
			if got, want := sight.Line(g, a, b), plainLine(a, b); !slices.Equal(got, want) {
				t.Fatalf("from %v to %v: %d tiles, not %d", a, b, len(got), len(want))
			}
		}
	}
}

func TestP7_1Order(t *testing.T) {
	g := open(20, 20)
	source := rand.New(rand.NewSource(2))
	for range 3000 {
		a, b := someTile(source, g), someTile(source, g)
		list := sight.Line(g, a, b)
		for i, p := range list[1:] {
			if before := list[i]; before.Y > p.Y || before.Y == p.Y && before.X >= p.X {
				t.Fatalf("from %v to %v: %v stands ahead of %v", a, b, before, p)
			}
		}
	}
}

func TestP7_1WallsDoNotTurnTheLine(t *testing.T) {
	source := rand.New(rand.NewSource(3))
	for range 500 {
		g := someGrid(source, 10)
		a, b := someTile(source, g), someTile(source, g)
		for _, same := range []api.Grid{g, open(g.W, g.H), full(g.W, g.H)} {
			if got, want := sight.Line(same, a, b), plainLine(a, b); !slices.Equal(got, want) {
				t.Fatalf("%v: from %v to %v: %v, not %v", same, a, b, got, want)
			}
		}
	}
}

// TestP7_1OfNoTile asks all calls from, to, and between what is no tile.
func TestP7_1OfNoTile(t *testing.T) {
	for _, g := range []api.Grid{open(4, 3), full(4, 3)} {
		for _, p := range beyond(4, 3) {
			for _, q := range append(tilesOf(g), tile(-1, -1), tile(4, 3), p) {
				nothing(t, g, p, q)
				nothing(t, g, q, p)
			}
			for _, r := range []int{-1, 0, 1, 2, api.MaxSide, api.MaxSide + 1, api.MaxInt} {
				if got := sight.Seen(g, p, r); len(got) != 0 {
					t.Errorf("Seen from %v by %d: %v", p, r, got)
				}
			}
		}
	}
}

func TestP7_1OfAGridThatIsNotRight(t *testing.T) {
	for name, g := range wrongGrids() {
		t.Run(name, func(t *testing.T) {
			list := append(beyond(3, 3), tilesOf(open(3, 3))...)
			for _, p := range list {
				for _, q := range tiles(0, 0, 2, 0, 0, 2, 2, 2, -1, -1, 3, 3) {
					nothing(t, g, p, q)
					nothing(t, g, q, p)
				}
				for _, r := range []int{-1, 0, 1, 5, api.MaxSide, api.MaxSide + 1, api.MaxInt} {
					if got := sight.Seen(g, p, r); len(got) != 0 {
						t.Errorf("Seen from %v by %d: %v", p, r, got)
					}
				}
			}
		})
	}
}

// nothing holds the calls on two places, of which one is no tile, against
// what tells that there is nothing.
func nothing(t *testing.T, g api.Grid, a, b api.Pos) {
	t.Helper()
	if got := sight.Line(g, a, b); len(got) != 0 {
		t.Fatalf("Line from %v to %v: %v", a, b, got)
	}
	if sight.Sees(g, a, b) {
		t.Fatalf("Sees from %v to %v", a, b)
	}
	if got, ok := sight.First(g, a, b); ok || got != tile(0, 0) {
		t.Fatalf("First from %v to %v: %v, %t", a, b, got, ok)
	}
}

func TestP7_2Sees(t *testing.T) {
	cases := []struct {
		name string
		g    api.Grid
		a, b api.Pos
		want bool
	}{
		{"no wall", open(5, 3), tile(0, 0), tile(4, 2), true},
		{"itself", open(1, 1), tile(0, 0), tile(0, 0), true},
		{"itself, a wall", drawn("#"), tile(0, 0), tile(0, 0), true},
		{"itself, among walls", drawn("###", "#.#", "###"), tile(1, 1), tile(1, 1), true},
		{"beside it, both walls", drawn("##"), tile(0, 0), tile(1, 0), true},
		{"a wall on a", drawn("#..."), tile(0, 0), tile(3, 0), true},
		{"a wall on b", drawn("...#"), tile(0, 0), tile(3, 0), true},
		{"walls on both", drawn("#..#"), tile(0, 0), tile(3, 0), true},
		{"walls on both and between", drawn("#.##"), tile(0, 0), tile(3, 0), false},
		{"a wall between, sideways", drawn(".#.."), tile(0, 0), tile(3, 0), false},
		{"a wall behind b", drawn("...#"), tile(0, 0), tile(2, 0), true},
		{"a wall behind a", drawn("#..."), tile(1, 0), tile(3, 0), true},
		{"a wall between, lengthwise", drawn(".", "#", "."), tile(0, 0), tile(0, 2), false},
		{"a wall between, a diagonal", drawn("...", ".#.", "..."), tile(0, 0), tile(2, 2), false},
		{"a corner alone, above the diagonal", drawn(".#", ".."), tile(0, 0), tile(1, 1), false},
		{"a corner alone, below the diagonal", drawn("..", "#."), tile(0, 0), tile(1, 1), false},
		{"two corners alone", drawn(".#", "#."), tile(0, 0), tile(1, 1), false},
		{"a corner alone, the other diagonal", drawn("#.", ".."), tile(1, 0), tile(0, 1), false},
		{"a corner alone, later", drawn("...", "..#", "..."), tile(0, 0), tile(2, 2), false},
		{"a corner alone, three and one, above", drawn("..#.", "...."), tile(0, 0), tile(3, 1), false},
		{"a corner alone, three and one, below", drawn("....", ".#.."), tile(0, 0), tile(3, 1), false},
		{"a corner alone, five and three", drawn("......", "......", "..#...", "......"), tile(0, 0), tile(5, 3), false},
		{"beside it, sideways", drawn("####", "....", "####"), tile(0, 1), tile(3, 1), true},
		{"beside it, lengthwise", drawn("#.#", "#.#", "#.#"), tile(1, 0), tile(1, 2), true},
		{"beside it, a diagonal", drawn("..#", "...", "#.."), tile(0, 0), tile(2, 2), true},
		{"beside it, two and one", drawn("..#", "#.."), tile(0, 0), tile(2, 1), true},
		{"on it, two and one, above", drawn(".#.", "..."), tile(0, 0), tile(2, 1), false},
		{"on it, two and one, below", drawn("...", ".#."), tile(0, 0), tile(2, 1), false},
		{"beside it, three and one", drawn("...#", "#..."), tile(0, 0), tile(3, 1), true},
		{"all walls, but a step", full(3, 3), tile(0, 0), tile(1, 0), true},
		{"all walls", full(3, 3), tile(0, 0), tile(2, 0), false},
	}
	for _, c := range cases {
		t.Run(c.name, func(t *testing.T) {
			if sight.Sees(c.g, c.a, c.b) != c.want || sight.Sees(c.g, c.b, c.a) != c.want {
				t.Errorf("%t, back %t", sight.Sees(c.g, c.a, c.b), sight.Sees(c.g, c.b, c.a))
			}
		})
	}
}

func TestP7_2First(t *testing.T) {
	row := drawn(".#.##.")
	cases := []struct {
		name string
		g    api.Grid
		a, b api.Pos
		want []api.Pos // none: there is no wall
	}{
		{"no wall", open(5, 3), tile(0, 0), tile(4, 2), nil},
		{"itself", open(2, 2), tile(1, 1), tile(1, 1), nil},
		{"itself, a wall", full(2, 2), tile(1, 1), tile(1, 1), nil},
		{"a wall on a alone", drawn("#..."), tile(0, 0), tile(3, 0), nil},
		{"a wall on b alone", drawn("...#"), tile(0, 0), tile(3, 0), nil},
		{"walls on both alone", drawn("#..#"), tile(0, 0), tile(3, 0), nil},
		{"walls beside each other", full(2, 1), tile(0, 0), tile(1, 0), nil},
		{"walls behind both", drawn("#...#"), tile(1, 0), tile(3, 0), nil},
		{"walls beside the line", drawn("####", "....", "####"), tile(0, 1), tile(3, 1), nil},
		{"several", row, tile(0, 0), tile(5, 0), tiles(1, 0)},
		{"several, back", row, tile(5, 0), tile(0, 0), tiles(4, 0)},
		{"several, from between", row, tile(2, 0), tile(5, 0), tiles(3, 0)},
		{"several, a one of them", row, tile(3, 0), tile(0, 0), tiles(1, 0)},
		{"several, both of them", row, tile(1, 0), tile(4, 0), tiles(3, 0)},
		{"several, lengthwise", drawn(".", "#", "#", "#", "."), tile(0, 0), tile(0, 4), tiles(0, 1)},
		{"several, lengthwise, back", drawn(".", "#", "#", "#", "."), tile(0, 4), tile(0, 0), tiles(0, 3)},
		{"the one at the first tile of all", drawn("#...."), tile(1, 0), tile(0, 0), nil},
		{"two as far", drawn(".#.", "#..", "..."), tile(0, 0), tile(2, 2), tiles(1, 0)},
		{"two as far, back", drawn("...", "..#", ".#."), tile(2, 2), tile(0, 0), tiles(2, 1)},
		{"two as far, the middle too", drawn(".#.", "##.", "..."), tile(0, 0), tile(2, 2), tiles(1, 0)},
		{"two as far, farther off", drawn("...", "..#", ".#."), tile(0, 0), tile(2, 2), tiles(2, 1)},
		{"two as far, leftward", drawn(".#.", "..#", "..."), tile(2, 0), tile(0, 2), tiles(1, 0)},
		{"two as far, rightward and up", drawn("...", "#..", ".#."), tile(0, 2), tile(2, 0), tiles(0, 1)},
		{"a nearer one later in the row", drawn("....", ".##."), tile(3, 1), tile(0, 0), tiles(2, 1)},
		{"a nearer one in a later row", drawn("..#.", ".#.."), tile(0, 0), tile(3, 1), tiles(1, 1)},
		{"a nearer one in an earlier row", drawn("..#.", ".#.."), tile(3, 1), tile(0, 0), tiles(2, 0)},
		{"all walls", full(5, 5), tile(1, 3), tile(4, 0), tiles(1, 2)},
	}
	for _, c := range cases {
		t.Run(c.name, func(t *testing.T) {
			want := api.Pos{}
			if len(c.want) > 0 {
				want = c.want[0]
			}
			if got, ok := sight.First(c.g, c.a, c.b); got != want || ok != (len(c.want) > 0) {
				t.Errorf("%v, %t, not %v", got, ok, c.want)
			}
		})
	}
}

// TestP7_2FirstMayBeTheFirstTile: the place that is zero may itself be a wall.
func TestP7_2FirstMayBeTheFirstTile(t *testing.T) {
	g := walled(2, 2, tile(0, 0))
	if got, ok := sight.First(g, tile(1, 0), tile(0, 1)); got != tile(0, 0) || !ok {
		t.Errorf("%v, %t", got, ok)
	}
}

func TestP7_2SeesAndFirstArePlain(t *testing.T) {
	source := rand.New(rand.NewSource(4))
	for range 20000 {
		g := someGrid(source, 14)
		a, b := someTile(source, g), someTile(source, g)
		want, found := plainFirst(g, a, b)
		if got, ok := sight.First(g, a, b); got != want || ok != found {
			t.Fatalf("%v: First from %v to %v: %v, %t, not %v, %t", g, a, b, got, ok, want, found)
		}
		if sight.Sees(g, a, b) == found {
			t.Fatalf("%v: Sees from %v to %v: %t", g, a, b, found)
		}
	}
}

// TestP7_2OneWall sets a single wall on each tile in turn: just those of the
// line, but its ends, stand between.
func TestP7_2OneWall(t *testing.T) {
	const w, h = 6, 5
	for _, a := range tilesOf(open(w, h)) {
		for _, b := range tilesOf(open(w, h)) {
			between := plainLine(a, b)
			for _, wall := range tilesOf(open(w, h)) {
				g := walled(w, h, wall)
				stands := wall != a && wall != b && slices.Contains(between, wall)
				if sight.Sees(g, a, b) == stands {
					t.Fatalf("from %v to %v, a wall on %v: Sees %t", a, b, wall, stands)
				}
				if got, ok := sight.First(g, a, b); ok != stands || ok && got != wall {
					t.Fatalf("from %v to %v, a wall on %v: First %v, %t", a, b, wall, got, ok)
				}
			}
		}
	}
}

func TestP7_3Seen(t *testing.T) {
	const most = api.MaxSide
	three := open(3, 3)
	hall := drawn(
		".....",
		".##..",
		".....")
	cases := []struct {
		name string
		g    api.Grid
		a    api.Pos
		r    int
		want []api.Pos
	}{
		{"r of MinInt", three, tile(1, 1), api.MinInt, nil},
		{"r of -1", three, tile(1, 1), -1, nil},
		{"r of 0", three, tile(1, 1), 0, tiles(1, 1)},
		{"r of 1", three, tile(1, 1), 1, tiles(1, 0, 0, 1, 1, 1, 2, 1, 1, 2)},
		{"r of 2", three, tile(1, 1), 2, tilesOf(three)},
		{"r of 1, a corner", three, tile(0, 0), 1, tiles(0, 0, 1, 0, 0, 1)},
		{"r of MaxSide", three, tile(0, 0), most, tilesOf(three)},
		{"r of MaxSide + 1", three, tile(0, 0), most + 1, nil},
		{"r of 2^32", three, tile(0, 0), 1 << 32, nil},
		{"r of MaxInt", three, tile(0, 0), api.MaxInt, nil},
		{"a wall in a row", drawn("..#.."), tile(0, 0), 4, tiles(0, 0, 1, 0)},
		{"a wall in a row, from behind", drawn("..#.."), tile(4, 0), 4, tiles(3, 0, 4, 0)},
		{"walls between", hall, tile(0, 0), most, tiles(0, 0, 1, 0, 2, 0, 3, 0, 4, 0, 0, 1, 0, 2)},
		{"walls between, few", hall, tile(0, 0), 1, tiles(0, 0, 1, 0, 0, 1)},
		{"walls between, from beside", hall, tile(3, 1), most, tiles(3, 0, 4, 0, 3, 1, 4, 1, 3, 2, 4, 2)},
		{"from a wall", drawn("#...", ".#.."), tile(0, 0), 3, tiles(1, 0, 2, 0, 3, 0, 0, 1)},
		{"from a wall, r of 0", drawn("#..."), tile(0, 0), 0, nil},
		{"from a wall among walls", full(3, 3), tile(1, 1), most, nil},
		{"one tile", open(1, 1), tile(0, 0), 0, tiles(0, 0)},
		{"one tile, r of MaxSide", open(1, 1), tile(0, 0), most, tiles(0, 0)},
		{"one wall", drawn("#"), tile(0, 0), most, nil},
		{"just beyond", three, tile(-1, 0), 2, nil},
		{"just beyond, r of MaxSide", three, tile(3, 3), most, nil},
		{"at the ends", three, tile(api.MinInt, api.MaxInt), most, nil},
	}
	for _, c := range cases {
		t.Run(c.name, func(t *testing.T) {
			if got := sight.Seen(c.g, c.a, c.r); !slices.Equal(got, c.want) {
				t.Errorf("%v, not %v", got, c.want)
			}
		})
	}
}

func TestP7_3SeenAsksEachTile(t *testing.T) {
	source := rand.New(rand.NewSource(5))
	for range 600 {
		g := someGrid(source, 12)
		a := someTile(source, g)
		for _, r := range []int{-2, -1, 0, 1, 2, 3, 5, 9, 17, api.MaxSide, api.MaxSide + 1} {
			if got, want := sight.Seen(g, a, r), plainSeen(g, a, r); !slices.Equal(got, want) {
				t.Fatalf("%v: from %v by %d: %v, not %v", g, a, r, got, want)
			}
		}
	}
}

func TestP7_3SeenIsAroundThatOneSees(t *testing.T) {
	source := rand.New(rand.NewSource(6))
	g := open(api.MaxSide, api.MaxSide)
	for i := range g.Wall {
		g.Wall[i] = source.Intn(400) == 0
	}
	for _, a := range []api.Pos{tile(0, 0), tile(api.MaxSide-1, 40), someTile(source, g)} {
		for _, r := range []int{20, api.MaxSide} {
			var want []api.Pos
			for _, p := range grid.Around(g, a, r) {
				if sight.Sees(g, a, p) {
					want = append(want, p)
				}
			}
			if got := sight.Seen(g, a, r); !slices.Equal(got, want) {
				t.Errorf("from %v by %d: %d tiles, not %d", a, r, len(got), len(want))
			}
		}
	}
}

// guarded answers a grid with spare room behind its Wall, and a check that
// neither has changed.
func guarded(t *testing.T, g api.Grid) (api.Grid, func(string)) {
	t.Helper()
	whole := append(slices.Clone(g.Wall), true, false, true, false, true)
	before := slices.Clone(whole)
	g.Wall = whole[:len(g.Wall)]
	return g, func(call string) {
		t.Helper()
		if !slices.Equal(whole, before) {
			t.Errorf("%s has turned Wall or what is behind it", call)
		}
	}
}

func TestP7_4ArgumentsAreNotChanged(t *testing.T) {
	source := rand.New(rand.NewSource(7))
	for range 200 {
		g, check := guarded(t, someGrid(source, 7))
		a, b := someTile(source, g), someTile(source, g)
		for range 2 {
			sight.Line(g, a, b)
			check("Line")
			sight.Sees(g, a, b)
			check("Sees")
			sight.Seen(g, a, 4)
			check("Seen")
			sight.First(g, a, b)
			check("First")
			g.H++ // and once more, no longer right
		}
	}
}

func TestP7_4ArgumentsAreNotKept(t *testing.T) {
	g := open(5, 1)
	a, b := tile(0, 0), tile(4, 0)
	line, seen := sight.Line(g, a, b), sight.Seen(g, a, 4)
	if !sight.Sees(g, a, b) {
		t.Error("no wall, and one does not see")
	}
	if got, ok := sight.First(g, a, b); ok {
		t.Errorf("no wall, and the first is %v", got)
	}
	g.Wall[2] = true
	if !slices.Equal(line, tilesOf(g)) || !slices.Equal(seen, tilesOf(g)) {
		t.Errorf("a wall more turned what was answered: %v, %v", line, seen)
	}
	if got := sight.Seen(g, a, 4); !slices.Equal(got, tiles(0, 0, 1, 0)) {
		t.Errorf("Seen behind a wall more: %v", got)
	}
	if sight.Sees(g, a, b) {
		t.Error("Sees behind a wall more")
	}
	if got, ok := sight.First(g, a, b); got != tile(2, 0) || !ok {
		t.Errorf("First behind a wall more: %v, %t", got, ok)
	}
	g.Wall[2] = false
	if !sight.Sees(g, a, b) || len(sight.Seen(g, a, 4)) != 5 {
		t.Error("the wall is gone, and one does not see")
	}
}

func TestP7_4AnswersAreNewMemory(t *testing.T) {
	g, check := guarded(t, drawn("..#.", "....", "#..."))
	calls := map[string]func() []api.Pos{
		"Line":           func() []api.Pos { return sight.Line(g, tile(0, 0), tile(3, 2)) },
		"Line to itself": func() []api.Pos { return sight.Line(g, tile(1, 1), tile(1, 1)) },
		"Line back":      func() []api.Pos { return sight.Line(g, tile(3, 2), tile(0, 0)) },
		"Seen":           func() []api.Pos { return sight.Seen(g, tile(1, 1), 2) },
		"Seen from wall": func() []api.Pos { return sight.Seen(g, tile(2, 0), 2) },
	}
	for name, call := range calls {
		first, second := call(), call()
		want := slices.Clone(second)
		if len(want) == 0 || !slices.Equal(first, want) {
			t.Fatalf("%s: %v, and then %v", name, first, second)
		}
		spoil := first[:cap(first)]
		for i := range spoil {
			spoil[i] = tile(-9, -9)
		}
		check("writing over an answer of " + name)
		if !slices.Equal(second, want) {
			t.Errorf("%s: the second answer is %v by now", name, second)
		}
		if third := call(); !slices.Equal(third, want) {
			t.Errorf("%s: the third answer is %v, not %v", name, third, want)
		}
	}
}

func TestP7_4CallsAnswerAlikeAgain(t *testing.T) {
	source := rand.New(rand.NewSource(8))
	for range 300 {
		g, other := someGrid(source, 8), someGrid(source, 8)
		a, b := someTile(source, g), someTile(source, g)
		line, seen, sees := sight.Line(g, a, b), sight.Seen(g, a, 5), sight.Sees(g, a, b)
		first, ok := sight.First(g, a, b)
		p, q := someTile(source, other), someTile(source, other)
		sight.Line(other, p, q)
		sight.Seen(other, p, 5)
		sight.Sees(other, p, q)
		sight.First(other, p, q)
		if !slices.Equal(sight.Line(g, a, b), line) || !slices.Equal(sight.Seen(g, a, 5), seen) || sight.Sees(g, a, b) != sees {
			t.Fatalf("%v: from %v to %v: not what it was", g, a, b)
		}
		if again, too := sight.First(g, a, b); again != first || too != ok {
			t.Fatalf("%v: First from %v to %v: %v, and then %v", g, a, b, first, again)
		}
	}
}

func TestP7_5AlikeBothWays(t *testing.T) {
	source := rand.New(rand.NewSource(9))
	for range 20000 {
		g := someGrid(source, 20)
		a, b := someTile(source, g), someTile(source, g)
		if there, back := sight.Line(g, a, b), sight.Line(g, b, a); !slices.Equal(there, back) {
			t.Fatalf("between %v and %v: %v, back %v", a, b, there, back)
		}
		if sight.Sees(g, a, b) != sight.Sees(g, b, a) {
			t.Fatalf("%v: between %v and %v: %t, back not", g, a, b, sight.Sees(g, a, b))
		}
		_, there := sight.First(g, a, b)
		if _, back := sight.First(g, b, a); there != back {
			t.Fatalf("%v: First between %v and %v: %t, back not", g, a, b, there)
		}
	}
}

func TestP7_5BothEnds(t *testing.T) {
	for _, g := range []api.Grid{open(8, 9), full(8, 9)} {
		for _, a := range tilesOf(g) {
			for _, b := range tilesOf(g) {
				list := sight.Line(g, a, b)
				if !slices.Contains(list, a) || !slices.Contains(list, b) {
					t.Fatalf("from %v to %v: %v", a, b, list)
				}
				if len(list) < grid.Steps(a, b)+1 {
					t.Fatalf("from %v to %v, %d steps: %v", a, b, grid.Steps(a, b), list)
				}
			}
		}
	}
}

func TestP7_6WithoutWallsOneSeesEverywhere(t *testing.T) {
	for _, side := range [][2]int{{1, 1}, {1, 7}, {7, 1}, {6, 7}, {api.MaxSide, 1}, {1, api.MaxSide}} {
		g := open(side[0], side[1])
		for _, a := range tilesOf(g) {
			for _, b := range tilesOf(g) {
				if !sight.Sees(g, a, b) {
					t.Fatalf("%d by %d: not from %v to %v", g.W, g.H, a, b)
				}
				if got, ok := sight.First(g, a, b); ok {
					t.Fatalf("%d by %d: from %v to %v stands %v", g.W, g.H, a, b, got)
				}
			}
			if got := sight.Seen(g, a, api.MaxSide); !slices.Equal(got, tilesOf(g)) {
				t.Fatalf("%d by %d: from %v: %v", g.W, g.H, a, got)
			}
		}
	}
}

func TestP7_6AWallMoreNeverLetsOneSeeMore(t *testing.T) {
	source := rand.New(rand.NewSource(10))
	for range 300 {
		g := someGrid(source, 9)
		more := api.Grid{W: g.W, H: g.H, Wall: slices.Clone(g.Wall)}
		more.Wall[source.Intn(len(more.Wall))] = true
		for _, a := range tilesOf(g) {
			for _, b := range tilesOf(g) {
				if sight.Sees(more, a, b) && !sight.Sees(g, a, b) {
					t.Fatalf("%v: a wall more lets one see from %v to %v", g, a, b)
				}
			}
			before := sight.Seen(g, a, 6)
			for _, p := range sight.Seen(more, a, 6) {
				if !slices.Contains(before, p) {
					t.Fatalf("%v: a wall more lets one see %v from %v", g, p, a)
				}
			}
		}
	}
}
