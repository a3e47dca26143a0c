package aura_test

import (
	"fmt"
	"math/big"
	"math/rand"
	"reflect"
	"slices"
	"testing"

	"barrow/api"
	"barrow/aura"
	"barrow/content"
)

const (
	most  = api.MaxInt
	least = api.MinInt
)

// around answers content of these auras, and of a map of one tile.
func around(auras ...api.Aura) api.Content {
	return api.Content{Auras: auras, Map: api.Grid{W: 1, H: 1, Wall: make([]bool, 1)}}
}

// sound answers content that is right. It has an aura of each kind, of some
// kinds two; of 1, 7, 12 and 13 it is told that they harm.
func sound() api.Content {
	c := around(
		api.Aura{Id: 1, Kind: api.AuraHurt, Ticks: 5, Every: 2, Stacks: 2, Amount: 4, Harm: true},
		api.Aura{Id: 4, Kind: api.AuraHeal, Ticks: 8, Every: 3, Stacks: 1, Amount: 5},
		api.Aura{Id: 6, Kind: api.AuraOut, Ticks: 7, Stacks: 3, Amount: 20},
		api.Aura{Id: 7, Kind: api.AuraIn, Ticks: 6, Stacks: 4, Amount: -30, Harm: true},
		api.Aura{Id: 8, Kind: api.AuraShield, Ticks: 5, Stacks: 5, Amount: 40},
		api.Aura{Id: 9, Kind: api.AuraShield, Ticks: 9, Stacks: 2, Amount: 15},
		api.Aura{Id: 12, Kind: api.AuraRoot, Ticks: 4, Stacks: 1, Harm: true},
		api.Aura{Id: 13, Kind: api.AuraHurt, Ticks: 30, Every: 1, Stacks: api.MaxStacks, Amount: 7, Harm: true},
		api.Aura{Id: 20, Kind: api.AuraOut, Ticks: 2, Stacks: 3, Amount: -50},
	)
	c.Abilities = []api.Ability{{Id: 3, Charges: 1, Effects: []api.Effect{{Kind: api.EffectAura, Aura: 8}}}}
	c.Foes = []api.Foe{{Id: 5, Health: 9, Every: 1, Hoard: []api.Prize{{Item: 1, Weight: 1}}, Script: []api.Line{{Phase: 1, When: api.WhenEvery, Arg: 1, Do: api.DoCast, Value: 3}}}}
	return c
}

// odd answers content that is not right: two auras of one Id, Ids that fall,
// an Id of 0 and one below it, a kind of 0, numbers at their ends, shields
// that tick, and no map.
func odd() api.Content {
	return api.Content{Auras: []api.Aura{
		{Id: 9, Kind: api.AuraShield, Ticks: 3, Every: 2, Stacks: 3, Amount: 10, Harm: true},
		{Id: 1, Kind: api.AuraHurt, Ticks: most, Every: most, Stacks: most, Amount: most},
		{Id: 9, Kind: api.AuraHeal, Ticks: 7, Every: 0, Stacks: 9, Amount: 11},
		{Id: 1, Kind: api.AuraShield, Ticks: 1, Every: 1, Stacks: 1, Amount: 1, Harm: true},
		{Id: 0, Kind: 0, Ticks: 0, Every: 1, Stacks: 0, Amount: 3, Harm: true},
		{Id: -4, Kind: api.AuraShield, Ticks: -5, Every: -2, Stacks: -1, Amount: -6},
		{Id: 7, Kind: api.AuraIn, Ticks: least, Every: least, Stacks: least, Amount: least, Harm: true},
		{Id: 8, Kind: api.AuraShield, Ticks: 4, Every: -1, Stacks: most, Amount: 1 << 61},
		{Id: 6, Kind: api.AuraOut, Ticks: 2, Every: 0, Stacks: 2, Amount: most},
		{Id: 20, Kind: api.AuraOut, Ticks: 2, Every: 0, Stacks: 2, Amount: least},
		{Id: most, Kind: 99, Ticks: 2, Every: 1, Stacks: 2, Amount: 1 << 32},
		{Id: least, Kind: -1, Ticks: 2, Every: 3, Stacks: 2, Amount: -1},
	}}
}

// contents are both, with that of no aura, and nothing at all.
func contents() []api.Content {
	return []api.Content{sound(), odd(), around(), {}}
}

// one is an Active of that Aura and Source that has one stack and ends at 100.
func one(id, source int) api.Active {
	return api.Active{Aura: id, Source: source, Stacks: 1, Until: 100}
}

// with answers the Active with so much left of its shield.
func with(a api.Active, left int) api.Active {
	a.Left = left
	return a
}

// stacked answers the Active with so many stacks.
func stacked(a api.Active, stacks int) api.Active {
	a.Stacks = stacks
	return a
}

// ending answers the Active that ends then.
func ending(a api.Active, until int) api.Active {
	a.Until = until
	return a
}

// ticking answers the Active that ticks then.
func ticking(a api.Active, next int) api.Active {
	a.Next = next
	return a
}

// row spells a row short.
func row(l ...api.Active) []api.Active { return l }

// filled answers a row of n, each of aura 13 from a source of its own, from
// 1001 on.
func filled(n int) []api.Active {
	l := make([]api.Active, 0, n)
	for i := range n {
		l = append(l, one(13, 1001+i))
	}
	return l
}

// numbers are small ones, the ends of numbers, and some that would run over
// into small ones.
func numbers() []int {
	return []int{0, 1, -1, 2, -2, 3, 5, 7, 10, 40, 100, 1000, -1000, 1 << 32, 1<<32 + 1, -1 << 32, 1 << 61, 1 << 62, -1 << 62, most, most - 1, most - 5, least, least + 1, least + 5}
}

// wide is the number as one of any length.
func wide(n int) *big.Int { return big.NewInt(int64(n)) }

// held is the number, at the end of numbers that it is beyond, if it is.
func held(n *big.Int) int {
	switch {
	case n.Cmp(wide(most)) > 0:
		return most
	case n.Cmp(wide(least)) < 0:
		return least
	}
	return int(n.Int64())
}

func plainAdd(a, b int) int { return held(new(big.Int).Add(wide(a), wide(b))) }

func plainMul(a, b int) int { return held(new(big.Int).Mul(wide(a), wide(b))) }

// plainOf is the place of the aura of an Active in the content; -1, if it has
// none.
func plainOf(c api.Content, id int) int {
	for i := range c.Auras {
		if c.Auras[i].Id == id {
			return i
		}
	}
	return -1
}

func plainRight(c api.Content, l []api.Active) bool {
	ok := content.Right(c) && len(l) <= 16
	for i := range l {
		at := plainOf(c, l[i].Aura)
		ok = ok && at >= 0 && l[i].Stacks > 0 && l[i].Stacks <= c.Auras[at].Stacks && l[i].Left >= 0
		for j := range l {
			ok = ok && (i == j || l[i].Aura != l[j].Aura || l[i].Source != l[j].Source)
		}
	}
	return ok
}

func plainApply(c api.Content, l []api.Active, id, source, now int) ([]api.Active, api.Errno) {
	of := plainOf(c, id)
	if of < 0 {
		return nil, api.ErrNone
	}
	was := c.Auras[of]
	left := func(stacks int) int {
		if was.Kind == api.AuraShield {
			return plainMul(was.Amount, stacks)
		}
		return 0
	}
	for i, a := range l {
		if a.Aura != id || a.Source != source {
			continue
		}
		stacks := was.Stacks
		if a.Stacks < was.Stacks {
			stacks = a.Stacks + 1
		}
		turned := api.Active{Aura: id, Source: source, Stacks: stacks, Until: plainAdd(now, was.Ticks), Next: a.Next, Left: left(stacks)}
		return slices.Concat(l[:i], row(turned), l[i+1:]), api.OK
	}
	if len(l) >= 16 {
		return nil, api.ErrFull
	}
	made := api.Active{Aura: id, Source: source, Stacks: 1, Until: plainAdd(now, was.Ticks), Left: left(1)}
	if was.Every != 0 {
		made.Next = plainAdd(now, was.Every)
	}
	return slices.Concat(l, row(made)), api.OK
}

func plainExpire(l []api.Active, now int) (on, ended []api.Active) {
	for _, a := range l {
		if a.Until > now {
			on = append(on, a)
		}
	}
	for _, a := range l {
		if a.Until <= now {
			ended = append(ended, a)
		}
	}
	return on, ended
}

func plainTick(c api.Content, l []api.Active, now int) (turned, due []api.Active) {
	for _, a := range l {
		at := plainOf(c, a.Aura)
		if at < 0 || c.Auras[at].Every <= 0 || a.Next > now {
			turned = append(turned, a)
			continue
		}
		due = append(due, a)
		turned = append(turned, ticking(a, plainAdd(a.Next, c.Auras[at].Every)))
	}
	return turned, due
}

// plainDispel counts those that harm ahead of each.
func plainDispel(c api.Content, l []api.Active, n int) (on, gone []api.Active) {
	harms := func(a api.Active) bool {
		at := plainOf(c, a.Aura)
		return at >= 0 && c.Auras[at].Harm
	}
	for i, a := range l {
		ahead := 0
		for _, b := range l[:i] {
			if harms(b) {
				ahead++
			}
		}
		if harms(a) && ahead < n {
			gone = append(gone, a)
		} else {
			on = append(on, a)
		}
	}
	return on, gone
}

func plainSum(c api.Content, l []api.Active, kind int) int {
	sum := 0
	for _, a := range l {
		if at := plainOf(c, a.Aura); at >= 0 && c.Auras[at].Kind == kind {
			sum = plainAdd(sum, plainMul(c.Auras[at].Amount, a.Stacks))
		}
	}
	return sum
}

func plainHas(c api.Content, l []api.Active, kind int) bool {
	many := 0
	for _, a := range l {
		if at := plainOf(c, a.Aura); at >= 0 && c.Auras[at].Kind == kind {
			many++
		}
	}
	return many > 0
}

// plainTake asks of each shield by itself how much those ahead of it take
// away, and so how much of n comes to it.
func plainTake(c api.Content, l []api.Active, n int) ([]api.Active, int) {
	if n < 1 {
		return slices.Clone(l), 0
	}
	var behind []api.Active
	rest := wide(n)
	for _, a := range l {
		at := plainOf(c, a.Aura)
		if at < 0 || c.Auras[at].Kind != api.AuraShield {
			behind = append(behind, a)
			continue
		}
		if a.Left <= 0 {
			continue
		}
		if rest.Cmp(wide(a.Left)) >= 0 {
			rest.Sub(rest, wide(a.Left))
			continue
		}
		a.Left = held(new(big.Int).Sub(wide(a.Left), rest))
		rest.SetInt64(0)
		behind = append(behind, a)
	}
	return behind, held(rest)
}

// call is one of the calls that answer rows, at arguments of its own, and what
// it answers: two rows, and a number.
type call struct {
	name  string
	made  func(c api.Content, l []api.Active) ([]api.Active, []api.Active, int)
	plain func(c api.Content, l []api.Active) ([]api.Active, []api.Active, int)
}

func apply(id, source, now int) call {
	return call{fmt.Sprintf("Apply %d from %d at %d", id, source, now),
		func(c api.Content, l []api.Active) ([]api.Active, []api.Active, int) {
			made, err := aura.Apply(c, l, id, source, now)
			return made, nil, int(err)
		},
		func(c api.Content, l []api.Active) ([]api.Active, []api.Active, int) {
			made, err := plainApply(c, l, id, source, now)
			return made, nil, int(err)
		}}
}

func expire(now int) call {
	return call{fmt.Sprintf("Expire at %d", now),
		func(_ api.Content, l []api.Active) ([]api.Active, []api.Active, int) {
			on, ended := aura.Expire(l, now)
			return on, ended, 0
		},
		func(_ api.Content, l []api.Active) ([]api.Active, []api.Active, int) {
			on, ended := plainExpire(l, now)
			return on, ended, 0
		}}
}

func tick(now int) call {
	return call{fmt.Sprintf("Tick at %d", now),
		func(c api.Content, l []api.Active) ([]api.Active, []api.Active, int) {
			turned, due := aura.Tick(c, l, now)
			return turned, due, 0
		},
		func(c api.Content, l []api.Active) ([]api.Active, []api.Active, int) {
			turned, due := plainTick(c, l, now)
			return turned, due, 0
		}}
}

func dispel(n int) call {
	return call{fmt.Sprintf("Dispel %d", n),
		func(c api.Content, l []api.Active) ([]api.Active, []api.Active, int) {
			on, gone := aura.Dispel(c, l, n)
			return on, gone, 0
		},
		func(c api.Content, l []api.Active) ([]api.Active, []api.Active, int) {
			on, gone := plainDispel(c, l, n)
			return on, gone, 0
		}}
}

func take(n int) call {
	return call{fmt.Sprintf("Take %d", n),
		func(c api.Content, l []api.Active) ([]api.Active, []api.Active, int) {
			behind, rest := aura.Take(c, l, n)
			return behind, nil, rest
		},
		func(c api.Content, l []api.Active) ([]api.Active, []api.Active, int) {
			behind, rest := plainTake(c, l, n)
			return behind, nil, rest
		}}
}

// ids are the Ids of the content's auras, and some that none has.
func ids(c api.Content) []int {
	list := []int{0, -1, 5, 999, most - 1}
	for _, a := range c.Auras {
		list = append(list, a.Id)
	}
	return list
}

// far are the calls at the ends of their arguments.
func far(c api.Content, l []api.Active) []call {
	var calls []call
	for _, n := range numbers() {
		calls = append(calls, expire(n), tick(n), dispel(n), take(n))
	}
	for _, id := range ids(c) {
		for _, source := range []int{0, 1, 2, most, least} {
			for _, now := range []int{0, 10, most, most - 3, least, least + 2} {
				calls = append(calls, apply(id, source, now))
			}
		}
	}
	sum := 0
	for _, a := range l {
		sum = plainAdd(sum, max(a.Left, 0))
		calls = append(calls, take(sum), take(plainAdd(sum, 1)), take(plainAdd(sum, -1)))
		calls = append(calls, expire(a.Until), expire(plainAdd(a.Until, 1)), expire(plainAdd(a.Until, -1)))
		calls = append(calls, tick(a.Next), tick(plainAdd(a.Next, 1)), tick(plainAdd(a.Next, -1)))
		calls = append(calls, apply(a.Aura, a.Source, a.Until), apply(a.Aura, plainAdd(a.Source, 1), a.Until))
	}
	return calls
}

// holds holds what the call answers to what is told of it.
func (one call) holds(t *testing.T, c api.Content, l []api.Active) {
	t.Helper()
	first, second, n := one.made(c, l)
	wantFirst, wantSecond, want := one.plain(c, l)
	if !slices.Equal(first, wantFirst) || !slices.Equal(second, wantSecond) || n != want {
		t.Fatalf("%s of %v:\n%v, %v, %d, not\n%v, %v, %d", one.name, l, first, second, n, wantFirst, wantSecond, want)
	}
}

// rows are rows by cases: of auras that the content has, and of others, at
// numbers of each sort.
func rows() [][]api.Active {
	source := rand.New(rand.NewSource(7))
	list := [][]api.Active{
		nil, {}, row(one(1, 7)), row(one(999, 7)), row(api.Active{}), row(api.Active{}, api.Active{}),
		row(with(one(8, 1), 40), with(one(8, 2), 20), with(one(9, 1), 15)),
		row(one(1, 1), with(one(8, 1), 5), one(12, 1), with(one(9, 1), 7), one(4, 2), with(one(9, 2), 1), one(999, 1)),
		row(with(one(8, 1), 0), with(one(9, 1), -1), with(one(9, 2), most), with(one(8, 2), least), with(one(8, 3), most)),
		row(stacked(one(6, 1), most), stacked(one(6, 2), most), stacked(one(20, 1), most), stacked(one(7, 1), least)),
		row(ending(one(1, 1), 10), ending(one(4, 1), 11), ending(one(6, 1), 9), ending(one(7, 1), most), ending(one(8, 1), least)),
		row(ticking(one(1, 1), 10), ticking(one(4, 1), 11), ticking(one(13, 1), 9), ticking(one(1, 2), 0), ticking(one(1, 3), most), ticking(one(13, 2), least)),
		row(one(1, 1), one(1, 1), one(1, 2), one(1, 1)),
		filled(15), filled(16), filled(17), filled(40),
	}
	for range 12 {
		list = append(list, drawn(source, contents()[source.Intn(2)]))
	}
	return list
}

// drawn is some row, mostly of what the content has.
func drawn(source *rand.Rand, c api.Content) []api.Active {
	number := func() int {
		if source.Intn(9) == 0 {
			return numbers()[source.Intn(len(numbers()))]
		}
		return source.Intn(16) - 2
	}
	l := make([]api.Active, source.Intn(19))
	all := ids(c)
	for i := range l {
		l[i] = api.Active{Aura: all[source.Intn(len(all))], Source: source.Intn(3), Stacks: number(), Until: number(), Next: number(), Left: number()}
	}
	return l
}

// checkDrawn holds a call against what is told of it, at many drawn rows.
func checkDrawn(t *testing.T, seed int64, many int, drawCall func(source *rand.Rand, c api.Content) call) {
	t.Helper()
	source := rand.New(rand.NewSource(seed))
	both := contents()
	for range many {
		c := both[source.Intn(2)]
		drawCall(source, c).holds(t, c, drawn(source, c))
	}
}

func TestP15_1RightByCases(t *testing.T) {
	c := sound()
	hurt, shield := one(1, 7), with(one(8, 7), 40)
	cases := []struct {
		name string
		l    []api.Active
		want bool
	}{
		{"nil", nil, true}, {"none", []api.Active{}, true}, {"one", row(hurt), true}, {"two", row(hurt, shield), true},
		{"one fewer than the most", filled(api.MaxAuras - 1), true}, {"the most", filled(api.MaxAuras), true},
		{"one more", filled(api.MaxAuras + 1), false}, {"many more", filled(100), false},
		{"Until and Next at any number", row(ticking(ending(hurt, least), least), ticking(ending(shield, most), most), ending(one(4, 1), -1)), true},
		{"an aura that isn't there", row(one(2, 7)), false}, {"it ahead", row(one(2, 7), hurt), false}, {"it behind", row(hurt, one(2, 7)), false},
		{"an aura of 0", row(one(0, 7)), false}, {"an aura below 0", row(one(-1, 7)), false}, {"nothing", row(api.Active{}), false},
		{"an aura far off", row(one(most, 7)), false}, {"an aura far below", row(one(least, 7)), false}, {"an aura cut", row(one(1<<32+1, 7)), false},
		{"stacks 0", row(stacked(hurt, 0)), false}, {"stacks 1", row(stacked(hurt, 1)), true}, {"stacks 2 of 2", row(stacked(hurt, 2)), true},
		{"stacks 3 of 2", row(stacked(hurt, 3)), false}, {"stacks -1", row(stacked(hurt, -1)), false},
		{"stacks most", row(stacked(hurt, most)), false}, {"stacks least", row(stacked(hurt, least)), false}, {"stacks cut", row(stacked(hurt, 1<<32+1)), false},
		{"stacks 1 of 1", row(stacked(one(4, 7), 1)), true}, {"stacks 2 of 1", row(stacked(one(4, 7), 2)), false},
		{"stacks 100 of 100", row(stacked(one(13, 7), 100)), true}, {"stacks 101 of 100", row(stacked(one(13, 7), 101)), false},
		{"stacks of another one", row(stacked(one(4, 7), 1), stacked(one(7, 7), 4), stacked(one(6, 7), 3)), true},
		{"stacks of another one, one more", row(stacked(one(4, 7), 1), stacked(one(7, 7), 4), stacked(one(6, 7), 4)), false},
		{"wrong stacks behind", row(hurt, stacked(shield, 6)), false}, {"wrong stacks ahead", row(stacked(shield, 0), hurt), false},
		{"left 0", row(with(shield, 0)), true}, {"left -1", row(with(shield, -1)), false}, {"left 1", row(with(shield, 1)), true},
		{"left most", row(with(shield, most)), true}, {"left least", row(with(shield, least)), false},
		{"left more than its stacks", row(with(shield, 1000)), true}, {"left of no shield", row(with(hurt, 9)), true}, {"left -1 of no shield", row(with(hurt, -1)), false},
		{"wrong left behind", row(hurt, with(shield, -1)), false}, {"wrong left ahead", row(with(hurt, -1), shield), false},
		{"twice beside", row(hurt, hurt), false}, {"twice far apart", row(hurt, shield, one(4, 7), one(12, 7), hurt), false},
		{"twice at the end", row(shield, one(4, 7), hurt, hurt), false}, {"twice, else unlike", row(hurt, stacked(ending(ticking(with(hurt, 3), 9), 8), 2)), false},
		{"one aura, another source", row(hurt, one(1, 8)), true}, {"one aura, another source, far apart", row(hurt, one(1, 8), shield, one(1, 6), one(4, 7), one(1, 9)), true},
		{"another aura, one source", row(hurt, one(4, 7)), true}, {"another aura, one source, far apart", row(hurt, shield, one(4, 7), one(6, 7), one(12, 7)), true},
		{"crosswise", row(hurt, one(4, 8), one(4, 7), one(1, 8)), true}, {"turned round", row(one(1, 4), one(4, 1)), true},
		{"sources at any number", row(one(1, 0), one(1, -1), one(1, most), one(1, least), one(1, 1<<32)), true},
		{"twice of 0", row(one(1, 0), one(4, 0), one(1, 0)), false}, {"twice among the most", append(filled(15), one(13, 1001)), false},
	}
	for _, x := range cases {
		if got := aura.Right(c, x.l); got != x.want {
			t.Errorf("%s: %v: %t", x.name, x.l, got)
		}
		if plainRight(c, x.l) != x.want {
			t.Errorf("%s: not as told", x.name)
		}
	}
}

// TestP15_1WrongContent holds that nothing is right by content that is not
// right, not even a row of nothing.
func TestP15_1WrongContent(t *testing.T) {
	turn := func(do func(c *api.Content)) api.Content {
		c := sound()
		do(&c)
		return c
	}
	for name, c := range map[string]api.Content{
		"nothing":           {},
		"odd":               odd(),
		"two of one Id":     turn(func(c *api.Content) { c.Auras[1].Id = 1 }),
		"Ids that fall":     turn(func(c *api.Content) { c.Auras[8].Id = 2 }),
		"a last one":        turn(func(c *api.Content) { c.Auras[8].Kind = 7 }),
		"too many stacks":   turn(func(c *api.Content) { c.Auras[7].Stacks = 101 }),
		"an Every":          turn(func(c *api.Content) { c.Auras[4].Every = 1 }),
		"no map":            turn(func(c *api.Content) { c.Map = api.Grid{} }),
		"a door in a wall":  turn(func(c *api.Content) { c.Map.Wall[0] = true }),
		"a wrong ability":   turn(func(c *api.Content) { c.Abilities[0].Charges = 0 }),
		"a wrong foe":       turn(func(c *api.Content) { c.Foes[0].Health = 0 }),
		"an effect of none": turn(func(c *api.Content) { c.Auras[4].Id = 9; c.Auras[5].Id = 10 }),
	} {
		for _, l := range [][]api.Active{nil, {}, row(one(1, 7)), row(one(1, 7), one(12, 7)), row(api.Active{})} {
			if aura.Right(c, l) {
				t.Errorf("%s: %v is right", name, l)
			}
		}
	}
	if !aura.Right(around(), nil) || aura.Right(around(), row(one(1, 7))) {
		t.Error("content without an aura")
	}
}

func TestP15_1RightAsTold(t *testing.T) {
	for _, c := range contents() {
		for _, l := range rows() {
			if got := aura.Right(c, l); got != plainRight(c, l) {
				t.Fatalf("%v: %t", l, got)
			}
		}
	}
	source, c, sawRight := rand.New(rand.NewSource(1)), sound(), 0
	for range 40000 {
		l := make([]api.Active, source.Intn(5))
		for i := range l {
			at := source.Intn(len(c.Auras))
			l[i] = api.Active{Aura: c.Auras[at].Id, Source: source.Intn(4), Stacks: 1 + source.Intn(c.Auras[at].Stacks), Until: source.Intn(9), Left: source.Intn(9)}
			switch source.Intn(40) {
			case 0:
				l[i].Aura = source.Intn(24)
			case 1:
				l[i].Stacks = source.Intn(8) - 1
			case 2:
				l[i].Left = source.Intn(3) - 2
			}
		}
		got := aura.Right(c, l)
		if got != plainRight(c, l) {
			t.Fatalf("%v: %t", l, got)
		}
		if got {
			sawRight++
		}
	}
	if sawRight < 1000 || sawRight > 39000 {
		t.Errorf("%d of the rows are right", sawRight)
	}
}

// laid is a call of Apply, and the row that it answers.
type laid struct {
	name            string
	l               []api.Active
	id, source, now int
	want            []api.Active
}

func checkLaid(t *testing.T, c api.Content, list []laid) {
	t.Helper()
	for _, x := range list {
		got, err := aura.Apply(c, x.l, x.id, x.source, x.now)
		if !slices.Equal(got, x.want) || err != api.OK {
			t.Errorf("%s: %v, %d, not %v", x.name, got, err, x.want)
		}
		apply(x.id, x.source, x.now).holds(t, c, x.l)
	}
}

func TestP15_2ApplyNew(t *testing.T) {
	active := func(id, until, next, left int) api.Active {
		return api.Active{Aura: id, Source: 7, Stacks: 1, Until: until, Next: next, Left: left}
	}
	checkLaid(t, sound(), []laid{
		{"hurt", nil, 1, 7, 10, row(active(1, 15, 12, 0))},
		{"heal", []api.Active{}, 4, 7, 10, row(active(4, 18, 13, 0))},
		{"out", nil, 6, 7, 10, row(active(6, 17, 0, 0))},
		{"in", nil, 7, 7, 10, row(active(7, 16, 0, 0))},
		{"shield", nil, 8, 7, 10, row(active(8, 15, 0, 40))},
		{"another shield", nil, 9, 7, 10, row(active(9, 19, 0, 15))},
		{"root", nil, 12, 7, 10, row(active(12, 14, 0, 0))},
		{"each tick", nil, 13, 7, 10, row(active(13, 40, 11, 0))},
		{"at 0", nil, 1, 7, 0, row(active(1, 5, 2, 0))},
		{"at -1", nil, 1, 7, -1, row(active(1, 4, 1, 0))},
		{"a Next that comes to be 0", nil, 1, 7, -2, row(active(1, 3, 0, 0))},
		{"at the end", nil, 1, 7, most, row(active(1, most, most, 0))},
		{"over the end by Ticks alone", nil, 1, 7, most - 3, row(active(1, most, most-1, 0))},
		{"just at the end", nil, 1, 7, most - 5, row(active(1, most, most-3, 0))},
		{"one over it", nil, 1, 7, most - 4, row(active(1, most, most-2, 0))},
		{"at the other end", nil, 1, 7, least, row(active(1, least+5, least+2, 0))},
		{"a shield at the end", nil, 8, 7, most, row(active(8, most, 0, 40))},
		{"behind another aura", row(one(4, 7)), 1, 7, 10, row(one(4, 7), active(1, 15, 12, 0))},
		{"behind another source", row(one(1, 8)), 1, 7, 10, row(one(1, 8), active(1, 15, 12, 0))},
		{"behind others", row(one(1, 8), one(4, 7), one(1, 6), one(7, 1)), 1, 7, 10, row(one(1, 8), one(4, 7), one(1, 6), one(7, 1), active(1, 15, 12, 0))},
		{"behind one that it is not", row(one(999, 7), api.Active{}), 1, 7, 10, row(one(999, 7), api.Active{}, active(1, 15, 12, 0))},
		{"behind an ended one", row(ending(one(4, 7), 3)), 1, 7, 10, row(ending(one(4, 7), 3), active(1, 15, 12, 0))},
		{"one fewer than the most", filled(15), 1, 7, 10, append(filled(15), active(1, 15, 12, 0))},
		{"of a full row's aura", filled(15), 13, 7, 10, append(filled(15), active(13, 40, 11, 0))},
	})
	for _, source := range []int{0, -1, most, least, 1 << 32} {
		checkLaid(t, sound(), []laid{
			{"from anyone", row(one(1, 7)), 1, source, 10, row(one(1, 7), api.Active{Aura: 1, Source: source, Stacks: 1, Until: 15, Next: 12})},
		})
	}
}

func TestP15_2ApplyAgain(t *testing.T) {
	was := api.Active{Aura: 1, Source: 7, Stacks: 1, Until: 15, Next: 12}
	then := api.Active{Aura: 1, Source: 7, Stacks: 2, Until: 16, Next: 12}
	shield := api.Active{Aura: 8, Source: 7, Stacks: 2, Until: 12, Left: 3}
	fresh := api.Active{Aura: 8, Source: 7, Stacks: 3, Until: 16, Left: 120}
	a, b, d := one(4, 7), one(1, 8), with(one(8, 8), 9)
	checkLaid(t, sound(), []laid{
		{"alone", row(was), 1, 7, 11, row(then)},
		{"first", row(was, a, b), 1, 7, 11, row(then, a, b)},
		{"in the middle", row(a, was, b), 1, 7, 11, row(a, then, b)},
		{"last", row(a, b, was), 1, 7, 11, row(a, b, then)},
		{"twice: the first one alone", row(a, was, b, was), 1, 7, 11, row(a, then, b, was)},
		{"twice beside, unlike", row(ticking(was, 99), was), 1, 7, 11, row(ticking(then, 99), was)},
		{"a shield", row(d, shield, a), 8, 7, 11, row(d, fresh, a)},
		{"a shield of which nothing is left", row(with(shield, 0)), 8, 7, 11, row(fresh)},
		{"a shield of which more is left", row(with(shield, most)), 8, 7, 11, row(fresh)},
		{"what was left of no shield", row(with(was, 5)), 1, 7, 11, row(then)},
		{"at its stacks", row(stacked(was, 2)), 1, 7, 11, row(then)},
		{"above its stacks", row(stacked(was, 3)), 1, 7, 11, row(then)},
		{"far above its stacks", row(stacked(was, most)), 1, 7, 11, row(then)},
		{"at 0", row(stacked(was, 0)), 1, 7, 11, row(stacked(then, 1))},
		{"below 0", row(stacked(was, -1)), 1, 7, 11, row(stacked(then, 0))},
		{"far below 0", row(stacked(was, least)), 1, 7, 11, row(stacked(then, least+1))},
		{"cut", row(stacked(was, 1<<32)), 1, 7, 11, row(then)},
		{"a shield at its stacks", row(stacked(shield, 5)), 8, 7, 11, row(with(stacked(fresh, 5), 200))},
		{"a shield far above", row(stacked(shield, most)), 8, 7, 11, row(with(stacked(fresh, 5), 200))},
		{"a shield at -1", row(stacked(shield, -1)), 8, 7, 11, row(with(stacked(fresh, 0), 0))},
		{"a shield at -3", row(stacked(shield, -3)), 8, 7, 11, row(with(stacked(fresh, -2), -80))},
		{"a shield far below", row(stacked(shield, least)), 8, 7, 11, row(with(stacked(fresh, least+1), least))},
		{"of one stack", row(one(4, 7)), 4, 7, 11, row(ending(one(4, 7), 19))},
		{"Next of 0 stays", row(ticking(was, 0)), 1, 7, 11, row(ticking(then, 0))},
		{"Next behind stays", row(ticking(was, 2)), 1, 7, 11, row(ticking(then, 2))},
		{"Next at the end stays", row(ticking(was, most)), 1, 7, 11, row(ticking(then, most))},
		{"Next at the other end stays", row(ticking(was, least)), 1, 7, 11, row(ticking(then, least))},
		{"Next of one that never ticks stays", row(ticking(one(6, 7), 5)), 6, 7, 11, row(ticking(stacked(ending(one(6, 7), 18), 2), 5))},
		{"Until of later falls", row(ending(was, 99)), 1, 7, 11, row(then)},
		{"Until over the end", row(was), 1, 7, most - 2, row(ending(then, most))},
		{"at the end", row(was), 1, 7, most, row(ending(then, most))},
		{"at the other end", row(was), 1, 7, least, row(ending(then, least+5))},
		{"an ended one", row(ending(was, 1)), 1, 7, 11, row(then)},
		{"of a full row", append(filled(15), was), 1, 7, 11, append(filled(15), then)},
		{"ahead in a full row", append(row(was), filled(15)...), 1, 7, 11, append(row(then), filled(15)...)},
		{"of a row of one more", append(filled(16), was), 1, 7, 11, append(filled(16), then)},
		{"of a row of many", append(filled(50), was), 1, 7, 11, append(filled(50), then)},
	})
}

// checkRefused holds an Apply to an error, and to no row beside it.
func checkRefused(t *testing.T, name string, c api.Content, l []api.Active, id, source int, want api.Errno) {
	t.Helper()
	for _, now := range []int{0, 10, most, least} {
		if got, err := aura.Apply(c, l, id, source, now); len(got) != 0 || err != want {
			t.Errorf("%s at %d: %v, %d, not %d", name, now, got, err, want)
		}
	}
}

func TestP15_2ApplyRefused(t *testing.T) {
	c := sound()
	for _, id := range []int{0, -1, 2, 3, 5, 14, 21, 1<<32 + 1, most, least} {
		checkRefused(t, "none", c, nil, id, 7, api.ErrNone)
		checkRefused(t, "none, but in the row", c, row(one(1, 7), one(id, 7)), id, 7, api.ErrNone)
		checkRefused(t, "none, and the row is full", c, filled(16), id, 7, api.ErrNone)
		checkRefused(t, "none, and the row is too long", c, filled(17), id, 7, api.ErrNone)
		checkRefused(t, "none of nothing", api.Content{}, nil, id, 7, api.ErrNone)
	}
	for _, many := range []int{16, 17, 18, 50} {
		checkRefused(t, "full", c, filled(many), 1, 7, api.ErrFull)
		checkRefused(t, "full of it, from others", c, filled(many), 13, 7, api.ErrFull)
		checkRefused(t, "full of others, from that source", c, append(filled(many-1), one(4, 7)), 1, 7, api.ErrFull)
		checkRefused(t, "full, of a source just by", c, filled(many), 13, 1000, api.ErrFull)
	}
	if api.MaxAuras != 16 {
		t.Error("MaxAuras is another one")
	}
}

// TestP15_2ApplyOddContent has auras that content may not have: the first one
// of an Id counts, and a new one has one stack, whatever the most are.
func TestP15_2ApplyOddContent(t *testing.T) {
	checkLaid(t, odd(), []laid{
		{"the first of an Id", nil, 9, 7, 10, row(api.Active{Aura: 9, Source: 7, Stacks: 1, Until: 13, Next: 12, Left: 10})},
		{"the first of an Id again", row(stacked(one(9, 7), 2)), 9, 7, 10, row(api.Active{Aura: 9, Source: 7, Stacks: 3, Until: 13, Left: 30})},
		{"over the ends", nil, 1, 7, 10, row(api.Active{Aura: 1, Source: 7, Stacks: 1, Until: most, Next: most})},
		{"not over the ends", nil, 1, 7, least, row(api.Active{Aura: 1, Source: 7, Stacks: 1, Until: -1, Next: -1})},
		{"stacks up to the end", row(stacked(one(1, 7), most-1)), 1, 7, 0, row(stacked(ending(one(1, 7), most), most))},
		{"stacks at the end", row(stacked(one(1, 7), most)), 1, 7, 0, row(stacked(ending(one(1, 7), most), most))},
		{"an Id of 0, no stacks", nil, 0, 7, 10, row(api.Active{Source: 7, Stacks: 1, Until: 10, Next: 11})},
		{"an Id of 0 again", row(one(0, 7)), 0, 7, 10, row(api.Active{Source: 7, Until: 10})},
		{"an Id below 0", nil, -4, 7, 10, row(api.Active{Aura: -4, Source: 7, Stacks: 1, Until: 5, Next: 8, Left: -6})},
		{"an Id below 0 again", row(one(-4, 7)), -4, 7, 10, row(api.Active{Aura: -4, Source: 7, Stacks: -1, Until: 5, Left: 6})},
		{"below the ends", nil, 7, 7, -10, row(api.Active{Aura: 7, Source: 7, Stacks: 1, Until: least, Next: least})},
		{"below the ends again", row(ticking(one(7, 7), 3)), 7, 7, -10, row(api.Active{Aura: 7, Source: 7, Stacks: least, Until: least, Next: 3})},
		{"a product at 3 stacks", row(stacked(one(8, 7), 2)), 8, 7, 10, row(api.Active{Aura: 8, Source: 7, Stacks: 3, Until: 14, Left: 3 << 61})},
		{"a product that runs over", row(stacked(one(8, 7), 3)), 8, 7, 10, row(api.Active{Aura: 8, Source: 7, Stacks: 4, Until: 14, Left: most})},
		{"a product far over", row(stacked(one(8, 7), most)), 8, 7, 10, row(api.Active{Aura: 8, Source: 7, Stacks: most, Until: 14, Left: most})},
		{"a product far below", row(stacked(one(8, 7), least)), 8, 7, 10, row(api.Active{Aura: 8, Source: 7, Stacks: least + 1, Until: 14, Left: least})},
		{"an Every of -1", nil, 8, 7, 10, row(api.Active{Aura: 8, Source: 7, Stacks: 1, Until: 14, Next: 9, Left: 1 << 61})},
		{"an Id at the end", nil, most, 7, 10, row(api.Active{Aura: most, Source: 7, Stacks: 1, Until: 12, Next: 11})},
	})
}

func TestP15_2ApplyAsTold(t *testing.T) {
	for _, c := range contents() {
		for _, l := range rows() {
			for _, one := range far(c, l) {
				one.holds(t, c, l)
			}
		}
	}
	checkDrawn(t, 2, 60000, func(source *rand.Rand, c api.Content) call {
		all := ids(c)
		now := source.Intn(50)
		if source.Intn(9) == 0 {
			now = numbers()[source.Intn(len(numbers()))]
		}
		return apply(all[source.Intn(len(all))], source.Intn(3), now)
	})
}

// parted is a row, and the two that come of it.
type parted struct {
	name     string
	l        []api.Active
	n        int
	on, gone []api.Active
}

// checkParted holds a call of two rows to what it has to answer by cases.
func checkParted(t *testing.T, c api.Content, list []parted, of func(n int) call) {
	t.Helper()
	for _, x := range list {
		on, gone, _ := of(x.n).made(c, x.l)
		if !slices.Equal(on, x.on) || !slices.Equal(gone, x.gone) {
			t.Errorf("%s (%d): %v, %v, not %v, %v", x.name, x.n, on, gone, x.on, x.gone)
		}
		of(x.n).holds(t, c, x.l)
	}
}

func TestP15_3ExpireByCases(t *testing.T) {
	at := func(id, until int) api.Active { return ending(one(id, 7), until) }
	below, just, above := at(1, 9), at(4, 10), at(6, 11)
	by := row(at(1, 5), at(4, 20), at(6, 3), at(7, 30), at(8, 10), at(9, 11))
	checkParted(t, sound(), []parted{
		{"nil", nil, 10, nil, nil}, {"none", []api.Active{}, 10, nil, nil},
		{"just at now", row(just), 10, nil, row(just)}, {"one above", row(above), 10, row(above), nil}, {"one below", row(below), 10, nil, row(below)},
		{"all three", row(above, below, just), 10, row(above), row(below, just)}, {"turned round", row(just, below, above), 10, row(above), row(just, below)},
		{"all stay", by, 2, by, nil}, {"all go", by, 30, nil, by}, {"all but one go", by, 29, by[3:4], slices.Concat(by[:3], by[4:])},
		{"every second one", by, 5, row(by[1], by[3], by[4], by[5]), row(by[0], by[2])},
		{"every other second one", by, 10, row(by[1], by[3], by[5]), row(by[0], by[2], by[4])},
		{"0", row(at(1, 0), at(1, 1), at(1, -1)), 0, row(at(1, 1)), row(at(1, 0), at(1, -1))},
		{"the end", row(at(1, most), at(4, most-1)), most, nil, row(at(1, most), at(4, most-1))},
		{"one below the end", row(at(1, most), at(4, most-1)), most - 1, row(at(1, most)), row(at(4, most-1))},
		{"the other end", row(at(1, least), at(4, least+1)), least, row(at(4, least+1)), row(at(1, least))},
		{"far apart", row(at(1, least), at(4, most)), 0, row(at(4, most)), row(at(1, least))},
		{"cut", row(at(1, 1<<32), at(4, -1<<32)), 5, row(at(1, 1<<32)), row(at(4, -1<<32))},
		{"an aura that isn't there", row(at(999, 9), at(999, 11)), 10, row(at(999, 11)), row(at(999, 9))},
		{"alike", row(just, just, above, above), 10, row(above, above), row(just, just)},
		{"a tick that is due", row(ticking(above, 3)), 10, row(ticking(above, 3)), nil},
		{"longer than the most", append(filled(40), just), 10, filled(40), row(just)},
	}, expire)
}

func TestP15_3ExpireAsTold(t *testing.T) {
	checkDrawn(t, 3, 40000, func(source *rand.Rand, _ api.Content) call { return expire(source.Intn(20) - 3) })
}

func TestP15_3TickByCases(t *testing.T) {
	at := func(id, next int) api.Active { return ticking(one(id, 7), next) }
	many := row(at(1, 10), at(6, 3), at(4, 11), at(13, 2), at(999, 5), at(1, 9), at(4, 10), at(8, 10))
	checkParted(t, sound(), []parted{
		{"nil", nil, 10, nil, nil}, {"none", []api.Active{}, 10, nil, nil},
		{"just at now", row(at(1, 10)), 10, row(at(1, 12)), row(at(1, 10))},
		{"one above", row(at(1, 11)), 10, row(at(1, 11)), nil},
		{"one below", row(at(1, 9)), 10, row(at(1, 11)), row(at(1, 9))},
		{"a heal", row(at(4, 10)), 10, row(at(4, 13)), row(at(4, 10))},
		{"each tick", row(at(13, 10)), 10, row(at(13, 11)), row(at(13, 10))},
		{"a Next of 0", row(at(1, 0)), 10, row(at(1, 2)), row(at(1, 0))},
		{"a Next of 0 at 0", row(at(1, 0)), 0, row(at(1, 2)), row(at(1, 0))},
		{"a Next of 0 at -1", row(at(1, 0)), -1, row(at(1, 0)), nil},
		{"a Next below 0", row(at(1, -5)), -5, row(at(1, -3)), row(at(1, -5))},
		{"an aura that isn't there", row(at(999, 3), at(0, 0), at(-1, 0)), 10, row(at(999, 3), at(0, 0), at(-1, 0)), nil},
		{"one whose Every is 0", row(at(6, 3), at(6, 0), at(8, 3), at(12, 10)), 10, row(at(6, 3), at(6, 0), at(8, 3), at(12, 10)), nil},
		{"several behind", row(at(1, 1)), 10, row(at(1, 3)), row(at(1, 1))},
		{"far behind", row(at(1, least)), most, row(at(1, least+2)), row(at(1, least))},
		{"the end", row(at(1, most)), most, row(at(1, most)), row(at(1, most))},
		{"near the end", row(at(1, most-1)), most, row(at(1, most)), row(at(1, most-1))},
		{"just to the end", row(at(1, most-2)), most, row(at(1, most)), row(at(1, most-2))},
		{"the end is ahead", row(at(1, most)), most - 1, row(at(1, most)), nil},
		{"the other end", row(at(1, least)), least, row(at(1, least+2)), row(at(1, least))},
		{"beside the other end", row(at(1, least+1)), least, row(at(1, least+1)), nil},
		{"ended", row(ending(at(1, 10), 3)), 10, row(ending(at(1, 12), 3)), row(ending(at(1, 10), 3))},
		{"all else stays", row(with(stacked(at(1, 10), 9), 4)), 10, row(with(stacked(at(1, 12), 9), 4)), row(with(stacked(at(1, 10), 9), 4))},
		{"the order of both", many, 10,
			row(at(1, 12), at(6, 3), at(4, 11), at(13, 3), at(999, 5), at(1, 11), at(4, 13), at(8, 10)),
			row(at(1, 10), at(13, 2), at(1, 9), at(4, 10))},
		{"alike", row(at(1, 9), at(1, 9)), 10, row(at(1, 11), at(1, 11)), row(at(1, 9), at(1, 9))},
		{"longer than the most", append(filled(40), at(1, 11)), -1, append(filled(40), at(1, 11)), nil},
	}, tick)
}

// TestP15_3TickOddContent has an Every that is -1, 0 and 1 for each kind, one
// at the end of numbers, and two auras of one Id.
func TestP15_3TickOddContent(t *testing.T) {
	at := func(id, next int) api.Active { return ticking(one(id, 7), next) }
	for kind := -1; kind <= 7; kind++ {
		c := api.Content{Auras: []api.Aura{{Id: 3, Kind: kind, Every: -1}, {Id: 2, Kind: kind}, {Id: 1, Kind: kind, Every: 1}, {Id: 3, Every: 5}, {Id: 2, Every: 5}}}
		l := row(at(1, 10), at(2, 10), at(3, 10), at(4, 10), at(1, 3), at(3, least), at(2, 0))
		checkParted(t, c, []parted{
			{"kinds", l, 10, row(at(1, 11), l[1], l[2], l[3], at(1, 4), l[5], l[6]), row(at(1, 10), at(1, 3))},
		}, tick)
	}
	checkParted(t, odd(), []parted{
		{"a shield that ticks", row(with(at(9, 10), 5)), 10, row(with(at(9, 12), 5)), row(with(at(9, 10), 5))},
		{"an Every at the end", row(at(1, 10)), 10, row(at(1, most)), row(at(1, 10))},
		{"an Every at the end, and below 0", row(at(1, -10)), 10, row(at(1, most-10)), row(at(1, -10))},
		{"an Every at the other end", row(at(7, 10)), 10, row(at(7, 10)), nil},
		{"an Every of -1", row(at(8, 10)), 10, row(at(8, 10)), nil},
		{"an Id of 0", row(api.Active{}), 0, row(api.Active{Next: 1}), row(api.Active{})},
	}, tick)
}

func TestP15_3TickAsTold(t *testing.T) {
	checkDrawn(t, 4, 40000, func(source *rand.Rand, _ api.Content) call { return tick(source.Intn(20) - 3) })
}

func TestP15_4DispelByCases(t *testing.T) {
	// a, b and d harm; g, h and i do not.
	a, b, d, g, h, i := one(1, 7), one(7, 7), one(12, 7), one(4, 7), with(one(8, 7), 9), one(6, 7)
	behind, between, ahead, all := row(g, h, a, b, d), row(a, g, b, h, d), row(a, b, d, g, h), row(a, b, d)
	checkParted(t, sound(), []parted{
		{"nil", nil, 1, nil, nil}, {"none", []api.Active{}, 1, nil, nil}, {"none that harms", row(g, h, i), 1, row(g, h, i), nil},
		{"ahead", ahead, 1, row(b, d, g, h), row(a)}, {"ahead", ahead, 2, row(d, g, h), row(a, b)}, {"ahead", ahead, 3, row(g, h), all}, {"ahead", ahead, 4, row(g, h), all},
		{"between", between, 1, row(g, b, h, d), row(a)}, {"between", between, 2, row(g, h, d), row(a, b)}, {"between", between, 3, row(g, h), all}, {"between", between, 4, row(g, h), all},
		{"behind", behind, 1, row(g, h, b, d), row(a)}, {"behind", behind, 2, row(g, h, d), row(a, b)}, {"behind", behind, 3, row(g, h), all}, {"behind", behind, 4, row(g, h), all},
		{"n of 0", between, 0, between, nil}, {"n of -1", between, -1, between, nil}, {"n of -2", between, -2, between, nil},
		{"n at the end", between, most, row(g, h), all}, {"n at the other end", between, least, between, nil}, {"n beside it", between, least + 1, between, nil},
		{"n cut to 0", between, 1 << 32, row(g, h), all}, {"n cut from below", between, -1<<32 + 1, between, nil},
		{"all harm", all, 2, row(d), row(a, b)}, {"all harm and go", all, 3, nil, all}, {"one", row(a), 1, nil, row(a)}, {"not one", row(g), 1, row(g), nil},
		{"an aura that isn't there", row(one(999, 7), a, api.Active{}, b), 2, row(one(999, 7), api.Active{}), row(a, b)},
		{"alike", row(a, a, a), 2, row(a), row(a, a)}, {"of one aura", row(one(1, 3), one(1, 2), one(1, 1)), 2, row(one(1, 1)), row(one(1, 3), one(1, 2))},
		{"stacks are not asked", row(stacked(a, 0), stacked(b, -1), stacked(d, 9)), 2, row(stacked(d, 9)), row(stacked(a, 0), stacked(b, -1))},
		{"longer than the most", append(filled(40), g), 39, row(one(13, 1040), g), filled(39)},
	}, dispel)
}

func TestP15_4DispelOddContent(t *testing.T) {
	checkParted(t, odd(), []parted{
		{"the first of an Id", row(one(1, 7), one(9, 7), one(8, 7)), 3, row(one(1, 7), one(8, 7)), row(one(9, 7))},
		{"an Id of 0", row(one(5, 7), api.Active{}), 1, row(one(5, 7)), row(api.Active{})},
	}, dispel)
	for kind := -1; kind <= 7; kind++ {
		c := api.Content{Auras: []api.Aura{{Id: 1, Kind: kind, Harm: true}, {Id: 2, Kind: kind}, {Id: 1}, {Id: 2, Harm: true}}}
		checkParted(t, c, []parted{
			{"kinds", row(one(2, 7), one(1, 7), one(3, 7), one(2, 8), one(1, 8)), 2, row(one(2, 7), one(3, 7), one(2, 8)), row(one(1, 7), one(1, 8))},
		}, dispel)
	}
}

func TestP15_4DispelAsTold(t *testing.T) {
	checkDrawn(t, 5, 40000, func(source *rand.Rand, _ api.Content) call { return dispel(source.Intn(9) - 2) })
}

// checkSum holds Sum to what it has to answer, and Has to whether there is one.
func checkSum(t *testing.T, name string, c api.Content, l []api.Active, kind, want int, is bool) {
	t.Helper()
	if got := aura.Sum(c, l, kind); got != want || plainSum(c, l, kind) != want {
		t.Errorf("%s: Sum(%v, %d): %d, not %d", name, l, kind, got, want)
	}
	if got := aura.Has(c, l, kind); got != is || plainHas(c, l, kind) != is {
		t.Errorf("%s: Has(%v, %d): %t, not %t", name, l, kind, got, is)
	}
}

func TestP15_4SumAndHasByCases(t *testing.T) {
	c := sound()
	all := row(stacked(one(1, 1), 2), one(4, 1), stacked(one(6, 1), 3), stacked(one(7, 1), 2), with(stacked(one(8, 1), 2), 1), one(12, 1), one(6, 2), with(one(9, 1), 3), stacked(one(20, 1), 2))
	for kind, want := range map[int]int{api.AuraHurt: 8, api.AuraHeal: 5, api.AuraOut: -20, api.AuraIn: -60, api.AuraShield: 95, api.AuraRoot: 0} {
		checkSum(t, "each kind", c, all, kind, want, true)
		checkSum(t, "none", c, nil, kind, 0, false)
		checkSum(t, "no one", c, []api.Active{}, kind, 0, false)
		checkSum(t, "auras that aren't there", c, row(one(999, 1), one(0, 1), api.Active{}), kind, 0, false)
		checkSum(t, "no content", api.Content{}, all, kind, 0, false)
	}
	for _, kind := range []int{0, -1, 7, 99, 1<<32 + 1, -1<<32 + 2, most, least} {
		checkSum(t, "no kind", c, all, kind, 0, false)
		checkSum(t, "no kind, auras that aren't there", c, row(one(999, 1), api.Active{}), kind, 0, false)
	}
	hurts := row(one(1, 1), stacked(one(1, 2), 2), one(13, 3))
	checkSum(t, "of one kind alone", c, hurts, api.AuraHurt, 19, true)
	checkSum(t, "of one kind alone", c, hurts, api.AuraHeal, 0, false)
	for _, x := range [][2]int{{0, 0}, {1, 20}, {-1, -20}, {2, 40}, {4, 80}, {-7, -140}, {most, most}, {least, least}, {1 << 60, most}, {-1 << 60, least}, {1 << 32, 20 << 32}} {
		checkSum(t, "stacks", c, row(stacked(one(6, 1), x[0])), api.AuraOut, x[1], true)
		checkSum(t, "stacks among others", c, row(one(1, 1), stacked(one(6, 1), x[0]), one(4, 1)), api.AuraOut, x[1], true)
	}
	checkSum(t, "first", c, row(one(12, 1), one(1, 1), one(4, 1)), api.AuraRoot, 0, true)
	checkSum(t, "last", c, row(one(1, 1), one(4, 1), one(12, 1)), api.AuraRoot, 0, true)
	checkSum(t, "ended", c, row(ending(one(12, 1), least)), api.AuraRoot, 0, true)
	checkSum(t, "nothing left", c, row(with(one(8, 1), 0)), api.AuraShield, 40, true)
	checkSum(t, "what is left isn't asked", c, row(with(one(8, 1), most)), api.AuraShield, 40, true)
}

// TestP15_4SumAtTheEnds has sums that run over an end and then turn back: each
// sum by itself stays at the end.
func TestP15_4SumAtTheEnds(t *testing.T) {
	c := sound()
	up, down := stacked(one(6, 1), most), stacked(one(6, 2), least)
	checkSum(t, "up and up", c, row(up, up), api.AuraOut, most, true)
	checkSum(t, "down and down", c, row(down, down), api.AuraOut, least, true)
	checkSum(t, "up and down", c, row(up, down), api.AuraOut, -1, true)
	checkSum(t, "up, up and down", c, row(up, up, down), api.AuraOut, -1, true)
	checkSum(t, "up, down and up", c, row(up, down, up), api.AuraOut, most-1, true)
	checkSum(t, "down, down and up", c, row(down, down, up), api.AuraOut, -1, true)
	checkSum(t, "up, more and less", c, row(up, one(6, 3), one(20, 3)), api.AuraOut, most-50, true)
	checkSum(t, "up, less and more", c, row(up, one(20, 3), one(6, 3)), api.AuraOut, most-30, true)
	checkSum(t, "up and 0", c, row(up, stacked(one(6, 3), 0)), api.AuraOut, most, true)
	o := odd()
	checkSum(t, "an Amount at the end", o, row(one(6, 1)), api.AuraOut, most, true)
	checkSum(t, "twice it", o, row(stacked(one(6, 1), 2)), api.AuraOut, most, true)
	checkSum(t, "less it", o, row(stacked(one(6, 1), -1)), api.AuraOut, -most, true)
	checkSum(t, "twice less it", o, row(stacked(one(6, 1), -2)), api.AuraOut, least, true)
	checkSum(t, "an Amount at the other end", o, row(one(20, 1)), api.AuraOut, least, true)
	checkSum(t, "turned round", o, row(stacked(one(20, 1), -1)), api.AuraOut, most, true)
	checkSum(t, "both", o, row(one(6, 1), one(20, 1)), api.AuraOut, -1, true)
	checkSum(t, "ends of both", o, row(stacked(one(20, 1), least)), api.AuraOut, most, true)
	checkSum(t, "nought of it", o, row(stacked(one(20, 1), 0)), api.AuraOut, 0, true)
}

func TestP15_4SumAndHasOddContent(t *testing.T) {
	o := odd()
	checkSum(t, "the first of an Id", o, row(one(9, 1), one(1, 1)), api.AuraShield, 10, true)
	checkSum(t, "not the second", o, row(one(9, 1), one(1, 1)), api.AuraHeal, 0, false)
	checkSum(t, "a kind of 0", o, row(api.Active{Stacks: 2}, one(5, 1), one(0, 2)), 0, 9, true)
	checkSum(t, "a kind of 0, none of it", o, row(one(5, 1), one(999, 1)), 0, 0, false)
	checkSum(t, "a kind far off", o, row(one(most, 1), one(5, 1)), 99, 1<<32, true)
	checkSum(t, "a kind below 0", o, row(one(least, 1)), -1, -1, true)
	checkSum(t, "an Id below 0", o, row(one(-4, 1), one(8, 1)), api.AuraShield, 1<<61-6, true)
}

func TestP15_4SumAndHasAsTold(t *testing.T) {
	for _, c := range contents() {
		for _, l := range rows() {
			for _, kind := range []int{-1, 0, 1, 2, 3, 4, 5, 6, 7, 99, most, least} {
				checkSum(t, "as told", c, l, kind, plainSum(c, l, kind), plainHas(c, l, kind))
			}
		}
	}
	source, both := rand.New(rand.NewSource(6)), contents()
	for range 40000 {
		c := both[source.Intn(2)]
		l, kind := drawn(source, c), source.Intn(9)-1
		if got, want := aura.Sum(c, l, kind), plainSum(c, l, kind); got != want {
			t.Fatalf("Sum(%v, %d): %d, not %d", l, kind, got, want)
		}
		if got, want := aura.Has(c, l, kind), plainHas(c, l, kind); got != want {
			t.Fatalf("Has(%v, %d): %t, not %t", l, kind, got, want)
		}
	}
}

// taken is a call of Take, and what comes of it.
type taken struct {
	name string
	l    []api.Active
	n    int
	want []api.Active
	rest int
}

func checkTaken(t *testing.T, c api.Content, list []taken) {
	t.Helper()
	for _, x := range list {
		got, rest := aura.Take(c, x.l, x.n)
		if !slices.Equal(got, x.want) || rest != x.rest {
			t.Errorf("%s, %d: %v, %d, not %v, %d", x.name, x.n, got, rest, x.want, x.rest)
		}
		take(x.n).holds(t, c, x.l)
	}
}

func TestP15_5TakeByCases(t *testing.T) {
	a, b, d, u := one(1, 7), with(one(12, 7), 6), one(4, 2), with(one(999, 7), 50)
	none := row(a, b, d, u)
	s := func(left int) api.Active { return with(one(8, 1), left) }
	s2 := func(left int) api.Active { return with(stacked(one(8, 2), 3), left) }
	z := func(left int) api.Active { return with(ending(one(9, 1), 5), left) }
	one1, two, three := row(s(10)), row(s(10), s2(20)), row(s(10), s2(20), z(5))
	mixed := row(a, s(10), b, s2(20), u, z(5), d)
	checkTaken(t, sound(), []taken{
		{"nil", nil, 7, nil, 7}, {"nil", nil, 0, nil, 0}, {"none", []api.Active{}, 7, nil, 7}, {"none", []api.Active{}, most, nil, most},
		{"no shield", none, 1, none, 1}, {"no shield", none, 7, none, 7}, {"no shield", none, most, none, most}, {"no shield", none, 0, none, 0}, {"no shield", none, -1, none, 0},
		{"one", one1, 1, row(s(9)), 0}, {"one", one1, 9, row(s(1)), 0}, {"one", one1, 10, nil, 0}, {"one", one1, 11, nil, 1}, {"one", one1, most, nil, most - 10},
		{"two", two, 9, row(s(1), s2(20)), 0}, {"two", two, 10, row(s2(20)), 0}, {"two", two, 11, row(s2(19)), 0},
		{"two", two, 29, row(s2(1)), 0}, {"two", two, 30, nil, 0}, {"two", two, 31, nil, 1},
		{"three", three, 9, row(s(1), s2(20), z(5)), 0}, {"three", three, 10, row(s2(20), z(5)), 0}, {"three", three, 11, row(s2(19), z(5)), 0},
		{"three", three, 29, row(s2(1), z(5)), 0}, {"three", three, 30, row(z(5)), 0}, {"three", three, 31, row(z(4)), 0},
		{"three", three, 34, row(z(1)), 0}, {"three", three, 35, nil, 0}, {"three", three, 36, nil, 1},
		{"mixed", mixed, 9, row(a, s(1), b, s2(20), u, z(5), d), 0}, {"mixed", mixed, 10, row(a, b, s2(20), u, z(5), d), 0}, {"mixed", mixed, 11, row(a, b, s2(19), u, z(5), d), 0},
		{"mixed", mixed, 29, row(a, b, s2(1), u, z(5), d), 0}, {"mixed", mixed, 30, row(a, b, u, z(5), d), 0}, {"mixed", mixed, 31, row(a, b, u, z(4), d), 0},
		{"mixed", mixed, 34, row(a, b, u, z(1), d), 0}, {"mixed", mixed, 35, row(a, b, u, d), 0}, {"mixed", mixed, 36, row(a, b, u, d), 1},
		{"mixed", mixed, most, row(a, b, u, d), most - 35},
		{"first and last", row(s(3), a, b, z(4)), 5, row(a, b, z(2)), 0}, {"all go, first and last", row(s(3), a, b, z(4)), 8, row(a, b), 1},
		{"the same twice", row(s(5), s(5), s(5)), 7, row(s(3), s(5)), 0}, {"the same twice, others between", row(s(5), a, s(5), b), 5, row(a, s(5), b), 0},
		{"a later one of the first aura", row(z(2), s(5), z(9)), 3, row(s(4), z(9)), 0},
		{"longer than the most", slices.Concat(filled(40), one1, filled(3)), 4, slices.Concat(filled(40), row(s(6)), filled(3)), 0},
	})
}

func TestP15_5TakeNothing(t *testing.T) {
	l := row(one(1, 7), with(one(8, 1), 0), with(one(8, 2), -1), with(one(9, 1), 5), with(one(9, 2), least), with(one(9, 3), most))
	for _, n := range []int{0, -1, -2, -100, -1 << 32, least, least + 1} {
		for _, c := range contents() {
			checkTaken(t, c, []taken{{"nothing", l, n, l, 0}, {"nothing of one", l[1:2], n, l[1:2], 0}, {"nothing of none", nil, n, nil, 0}})
			for _, other := range rows() {
				checkTaken(t, c, []taken{{"nothing", other, n, other, 0}})
			}
		}
	}
}

// TestP15_5NothingLeft has shields of which nothing is left, reached by
// something of n and by nothing of it: they go by any blow.
func TestP15_5NothingLeft(t *testing.T) {
	a, u := one(1, 7), with(one(12, 7), -9)
	for _, left := range []int{0, -1, -40, least, least + 1, -1 << 32} {
		x, y, z := with(one(8, 1), left), with(one(9, 1), 5), with(one(9, 2), left)
		turned := with(one(9, 1), 3)
		checkTaken(t, sound(), []taken{
			{"alone", row(x), 1, nil, 1}, {"alone", row(x), most, nil, most}, {"two", row(x, a, z), 7, row(a), 7},
			{"ahead", row(x, y), 2, row(turned), 0}, {"behind", row(y, x), 2, row(turned), 0}, {"both", row(x, y, z), 2, row(turned), 0},
			{"others between", row(a, x, u, y, z, u), 2, row(a, u, turned, u), 0}, {"all go", row(a, x, u, y, z, u), 6, row(a, u, u), 1},
			{"just as much", row(x, y, a, z), 5, row(a), 0}, {"not reached", row(y, a, x), 1, row(with(y, 4), a), 0},
		})
	}
}

func TestP15_5TakeAtTheEnds(t *testing.T) {
	s := func(left int) api.Active { return with(one(8, 1), left) }
	z := func(left int) api.Active { return with(one(8, 2), left) }
	a := one(4, 7)
	checkTaken(t, sound(), []taken{
		{"most", row(s(most)), most, nil, 0}, {"most", row(s(most)), most - 1, row(s(1)), 0}, {"most", row(s(most)), 1, row(s(most - 1)), 0}, {"most less one", row(s(most - 1)), most, nil, 1},
		{"most twice", row(s(most), a, z(most)), most, row(a, z(most)), 0}, {"most twice", row(s(most), z(most)), most - 1, row(s(1), z(most)), 0}, {"over the end", row(s(most-1), a, z(most)), most, row(a, z(most-1)), 0},
		{"halves", row(s(1<<62), z(1<<62)), most, row(z(1)), 0}, {"cut", row(s(1<<32), z(7)), 1<<32 + 3, row(z(4)), 0},
	})
}

// TestP15_5TakeOddContent has shields that content may not have: the first
// aura of an Id tells.
func TestP15_5TakeOddContent(t *testing.T) {
	l := row(with(one(1, 1), 9), with(one(9, 1), 5), with(one(-4, 1), 3), api.Active{Left: 7}, with(one(8, 1), 4), with(one(9, 2), 1))
	checkTaken(t, odd(), []taken{
		{"odd", l, 4, row(l[0], with(l[1], 1), l[2], l[3], l[4], l[5]), 0}, {"odd", l, 5, row(l[0], l[2], l[3], l[4], l[5]), 0},
		{"odd", l, 9, row(l[0], l[3], with(l[4], 3), l[5]), 0}, {"odd", l, 12, row(l[0], l[3], l[5]), 0}, {"odd", l, 14, row(l[0], l[3]), 1},
	})
}

func TestP15_5TakeAsTold(t *testing.T) {
	checkDrawn(t, 8, 60000, func(source *rand.Rand, _ api.Content) call { return take(source.Intn(40) - 2) })
	source, c := rand.New(rand.NewSource(9)), sound()
	for range 40000 {
		l := make([]api.Active, source.Intn(9))
		for i := range l {
			l[i] = with(one([]int{1, 8, 9, 999}[source.Intn(4)], source.Intn(3)), source.Intn(12)-1)
		}
		take(source.Intn(40)).holds(t, c, l)
	}
}

// strange is what no row here holds.
var strange = api.Active{Aura: 777, Source: 778, Stacks: 779, Until: 780, Next: 781, Left: 782}

// guarded answers the list with spare room behind it, and a check that neither
// has changed.
func guarded[T any](t *testing.T, list []T, spare T) ([]T, func()) {
	whole := append(slices.Clone(list), slices.Repeat([]T{spare}, 24)...)
	before := slices.Clone(whole)
	return whole[:len(list)], func() {
		t.Helper()
		if !reflect.DeepEqual(whole, before) {
			t.Fatalf("%v became %v", before, whole)
		}
	}
}

// guardedContent answers the content with spare room behind each list of it,
// and a check that none has changed.
func guardedContent(t *testing.T, c api.Content) (api.Content, func()) {
	c = content.Copy(c)
	var checks [4]func()
	c.Abilities, checks[0] = guarded(t, c.Abilities, api.Ability{Id: 777})
	c.Auras, checks[1] = guarded(t, c.Auras, api.Aura{Id: 777})
	c.Foes, checks[2] = guarded(t, c.Foes, api.Foe{Id: 777})
	c.Map.Wall, checks[3] = guarded(t, c.Map.Wall, true)
	return c, func() {
		t.Helper()
		for _, check := range checks {
			check()
		}
	}
}

// spoil writes over all that a list has, its spare room too.
func spoil[T any](list []T, with T) {
	list = list[:cap(list)]
	for i := range list {
		list[i] = with
	}
}

// some are calls of each sort that turn something, and that turn nothing.
func some(c api.Content, l []api.Active) []call {
	calls := []call{expire(least), expire(5), expire(most), tick(least), tick(5), tick(most), dispel(0), dispel(1), dispel(2), dispel(most), take(0), take(1), take(12), take(most)}
	for _, id := range ids(c) {
		calls = append(calls, apply(id, 1, 10))
	}
	for _, a := range l {
		calls = append(calls, apply(a.Aura, a.Source, 10), expire(a.Until), tick(a.Next), take(a.Left))
	}
	return calls
}

func TestP15_6NothingIsChanged(t *testing.T) {
	for _, content := range contents() {
		c, checkContent := guardedContent(t, content)
		for _, l := range rows() {
			list, check := guarded(t, l, strange)
			for _, one := range some(c, l) {
				one.made(c, list)
				check()
				one.made(c, list[:len(list):len(list)])
				check()
			}
			for kind := -1; kind <= 7; kind++ {
				aura.Sum(c, list, kind)
				aura.Has(c, list, kind)
			}
			aura.Right(c, list)
			check()
			checkContent()
		}
	}
}

// TestP15_6AnswersAreNewMemory writes over what one call answered, row by row,
// and looks at what was handed in, at the other row, and at a second answer.
func TestP15_6AnswersAreNewMemory(t *testing.T) {
	for _, content := range contents() {
		for _, l := range rows() {
			for _, one := range some(content, l) {
				wantFirst, wantSecond, _ := one.plain(content, l)
				same := func(name string, got, want []api.Active) {
					t.Helper()
					if !slices.Equal(got, want) {
						t.Fatalf("%s of %v: %s: %v by now, not %v", one.name, l, name, got, want)
					}
				}
				c, checkContent := guardedContent(t, content)
				list, check := guarded(t, l, strange)
				first, second, _ := one.made(c, list)
				againFirst, againSecond, _ := one.made(c, list)
				spoil(first, strange)
				same("the second row", second, wantSecond)
				spoil(second, strange)
				check()
				checkContent()
				same("the first row again", againFirst, wantFirst)
				same("the second row again", againSecond, wantSecond)
				spoil(againSecond, strange)
				same("the first row again", againFirst, wantFirst)
				one.holds(t, c, list)
			}
		}
	}
}

// TestP15_6NothingIsKept writes over what was handed in.
func TestP15_6NothingIsKept(t *testing.T) {
	for _, handed := range contents() {
		for _, l := range rows() {
			for _, one := range some(handed, l) {
				wantFirst, wantSecond, want := one.plain(handed, l)
				c := content.Copy(handed)
				list := append(make([]api.Active, 0, len(l)+20), l...)
				first, second, n := one.made(c, list)
				spoil(list, strange)
				spoil(c.Auras, api.Aura{Id: 777})
				if !slices.Equal(first, wantFirst) || !slices.Equal(second, wantSecond) || n != want {
					t.Fatalf("%s of %v: %v, %v, %d by now", one.name, l, first, second, n)
				}
				one.holds(t, handed, l)
			}
		}
	}
}

// walk is one that lays auras on a unit, and lets them be, at rising times.
type walk struct {
	source *rand.Rand
	c      api.Content
	l      []api.Active
	now    int
}

// step does one of all that may be done with a row.
func (w *walk) step(t *testing.T) string {
	t.Helper()
	w.now = plainAdd(w.now, w.source.Intn(3))
	switch w.source.Intn(8) {
	case 0:
		w.l, _ = aura.Expire(w.l, w.now)
		return "Expire"
	case 1:
		w.l, _ = aura.Tick(w.c, w.l, w.now)
		return "Tick"
	case 2:
		w.l, _ = aura.Dispel(w.c, w.l, w.source.Intn(4)-1)
		return "Dispel"
	case 3:
		w.l, _ = aura.Take(w.c, w.l, w.source.Intn(60)-1)
		return "Take"
	}
	id, from := w.c.Auras[w.source.Intn(len(w.c.Auras))].Id, w.source.Intn(4)
	if w.source.Intn(20) == 0 {
		id = 999
	}
	l, err := aura.Apply(w.c, w.l, id, from, w.now)
	if err == api.OK {
		w.holdsLater(t, l, id, from)
		w.l = l
	}
	return "Apply"
}

// holdsLater holds that one that was laid again does not end sooner, nor have
// fewer stacks.
func (w *walk) holdsLater(t *testing.T, l []api.Active, id, from int) {
	t.Helper()
	for i, a := range w.l {
		if a.Aura == id && a.Source == from && (l[i].Until < a.Until || l[i].Stacks < a.Stacks) {
			t.Fatalf("at %d %v became %v", w.now, a, l[i])
		}
	}
}

func TestP15_7RightStaysRight(t *testing.T) {
	longest := 0
	for seed := range int64(300) {
		w := walk{source: rand.New(rand.NewSource(seed)), c: sound(), now: int(seed) - 100}
		if seed%10 == 0 {
			w.now = most - 200
		}
		for range 300 {
			before := w.l
			did := w.step(t)
			if !aura.Right(w.c, w.l) || !plainRight(w.c, w.l) {
				t.Fatalf("%s at %d: %v became %v", did, w.now, before, w.l)
			}
			longest = max(longest, len(w.l))
		}
	}
	if longest != api.MaxAuras {
		t.Errorf("the longest row had %d", longest)
	}
}

// TestP15_7LaidAgain lays each aura at rising times, till it has its most
// stacks, and some times more.
func TestP15_7LaidAgain(t *testing.T) {
	c := sound()
	for _, of := range c.Auras {
		for _, now := range []int{0, -50, 1000, most - 60} {
			for _, apart := range []int{0, 1, 4} {
				var l []api.Active
				until := least
				for i := range of.Stacks + 5 {
					at := plainAdd(now, i*apart)
					made, err := aura.Apply(c, l, of.Id, 7, at)
					if err != api.OK || len(made) != 1 {
						t.Fatalf("aura %d: %v, %d", of.Id, made, err)
					}
					if a := made[0]; a.Stacks != min(i+1, of.Stacks) || a.Until < until || a.Until != plainAdd(at, of.Ticks) {
						t.Fatalf("aura %d at %d: %v", of.Id, at, a)
					}
					l, until = made, made[0].Until
				}
				if l[0].Stacks != of.Stacks || !aura.Right(c, l) {
					t.Fatalf("aura %d: %v at last", of.Id, l)
				}
			}
		}
	}
}

// TestP15_8EachTickOnce asks at each time, and holds that an aura ticks just
// at Next, Every later, and so on, laid again or not.
func TestP15_8EachTickOnce(t *testing.T) {
	for _, again := range []bool{false, true} {
		for every := 1; every <= 7; every++ {
			for _, from := range []int{0, -40, 17, most - 100} {
				c := around(api.Aura{Id: 1, Kind: api.AuraHurt, Ticks: 9, Every: every, Stacks: 3, Amount: 1}, api.Aura{Id: 2, Kind: api.AuraRoot, Ticks: 1, Stacks: 1})
				l, _ := aura.Apply(c, row(one(2, 7)), 1, 7, from)
				next := l[1].Next
				if next != from+every {
					t.Fatalf("the first tick of each %d is at %d", every, next)
				}
				for now := from; now < from+60; now++ {
					var due []api.Active
					l, due = aura.Tick(c, l, now)
					want := now >= next && (now-next)%every == 0
					if (len(due) == 1) != want || len(due) > 1 || (want && (due[0].Next != now || due[0].Aura != 1)) {
						t.Fatalf("each %d, from %d on: at %d %v", every, from, now, due)
					}
					if twice, more := aura.Tick(c, l, now); len(more) != 0 || !slices.Equal(twice, l) {
						t.Fatalf("each %d, from %d on: at %d %v once more", every, from, now, more)
					}
					if again && now%3 == 0 {
						l, _ = aura.Apply(c, l, 1, 7, now)
					}
				}
			}
		}
	}
}

// TestP15_8Behind asks but once in a while: a call tells one tick, and who
// asks till none is due gets them all.
func TestP15_8Behind(t *testing.T) {
	for every := 1; every <= 5; every++ {
		for late := range 40 {
			c := around(api.Aura{Id: 1, Kind: api.AuraHeal, Ticks: 9, Every: every, Stacks: 3, Amount: 1})
			l := row(ticking(one(1, 7), 10), ticking(one(1, 8), 12))
			many := map[int]int{}
			for range 200 {
				turned, due := aura.Tick(c, l, 5+late)
				for _, a := range due {
					if a.Next != l[a.Source-7].Next {
						t.Fatalf("each %d at %d: %v of %v", every, 5+late, due, l)
					}
					many[a.Source]++
				}
				l = turned
			}
			for i, next := range []int{10, 12} {
				want := 0
				for at := next; at <= 5+late; at += every {
					want++
				}
				if many[7+i] != want || l[i].Next != next+want*every {
					t.Fatalf("each %d from %d on: %d ticks till %d, not %d; %v", every, next, many[7+i], 5+late, want, l)
				}
			}
		}
	}
}

func TestP15_Examples(t *testing.T) {
	c := around(api.Aura{Id: 1, Kind: api.AuraHurt, Ticks: 5, Every: 2, Stacks: 2})
	l, err := aura.Apply(c, nil, 1, 7, 10)
	if told := fmt.Sprint(l, err); told != "[{1 7 1 15 12 0}] 0" {
		t.Error(told)
	}
	l, err = aura.Apply(c, l, 1, 7, 11)
	if told := fmt.Sprint(l, err); told != "[{1 7 2 16 12 0}] 0" {
		t.Error(told)
	}
	l, err = aura.Apply(c, l, 1, 7, 12)
	if told := fmt.Sprint(l, err); told != "[{1 7 2 17 12 0}] 0" {
		t.Error(told)
	}
}

// TestW2AsOften is of calls that are made twice, others between: they keep
// nothing.
func TestW2AsOften(t *testing.T) {
	source, both := rand.New(rand.NewSource(10)), contents()
	for range 5000 {
		c, other := both[source.Intn(2)], both[source.Intn(2)]
		l, between := drawn(source, c), drawn(source, other)
		before := slices.Clone(l)
		calls, others := some(c, nil), some(other, nil)
		one := calls[source.Intn(len(calls))]
		first, second, n := one.made(c, l)
		others[source.Intn(len(others))].made(other, between)
		againFirst, againSecond, again := one.made(c, l)
		if !slices.Equal(first, againFirst) || !slices.Equal(second, againSecond) || n != again || !slices.Equal(l, before) {
			t.Fatalf("%s of %v: %v, %v, %d, and then %v, %v, %d", one.name, before, first, second, n, againFirst, againSecond, again)
		}
	}
}
