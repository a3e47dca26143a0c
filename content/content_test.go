package content_test

import (
	"fmt"
	"maps"
	"math/rand"
	"reflect"
	"slices"
	"testing"

	"barrow/api"
	"barrow/content"
)

// most is the greatest amount.
const most = api.MaxAmount

// tile spells a place short.
func tile(x, y int) api.Pos { return api.Pos{X: x, Y: y} }

// sound answers content that is right, of which each part has several rows
// and each kind of all that has kinds is there. The Ids of its abilities are
// 2, 5, 9, of its auras 1, 4, 6, 7, 8, 12, of its foes 3, 11.
func sound() api.Content {
	return api.Content{
		Abilities: []api.Ability{
			{Id: 2, Cast: 1, Cool: 2, Charges: 3, Range: 4, Cost: 5, Sight: true, Effects: []api.Effect{
				{Kind: api.EffectHurt, Amount: 5}, {Kind: api.EffectHeal, Amount: 6}, {Kind: api.EffectPower, Amount: 7},
				{Kind: api.EffectAura, Aura: 4}, {Kind: api.EffectTaunt, Amount: 8}, {Kind: api.EffectDispel, Amount: 9},
				{Kind: api.EffectMove, Amount: 10},
			}},
			{Id: 5, Charges: 1, Effects: []api.Effect{{Kind: api.EffectHurt}}},
			{Id: 9, Cast: 9, Cool: 8, Charges: 7, Range: 6, Cost: 5, Effects: []api.Effect{{Kind: api.EffectAura, Aura: 12}, {Kind: api.EffectAura, Aura: 1}}},
		},
		Auras: []api.Aura{
			{Id: 1, Kind: api.AuraHurt, Ticks: 9, Every: 3, Stacks: 2, Amount: 4, Harm: true},
			{Id: 4, Kind: api.AuraHeal, Ticks: 8, Every: 2, Stacks: 1, Amount: 5},
			{Id: 6, Kind: api.AuraOut, Ticks: 7, Stacks: 3, Amount: 20},
			{Id: 7, Kind: api.AuraIn, Ticks: 6, Stacks: 4, Amount: -30, Harm: true},
			{Id: 8, Kind: api.AuraShield, Ticks: 5, Stacks: 5, Amount: 40},
			{Id: 12, Kind: api.AuraRoot, Ticks: 4, Stacks: 1, Harm: true},
		},
		Foes: []api.Foe{
			{Id: 3, Health: 50, Hit: 4, Every: 3, Reach: 2, Drops: 2, Script: []api.Line{
				{Phase: 1, When: api.WhenBelow, Arg: 50, Do: api.DoPhase, Value: 2},
				{Phase: 2, When: api.WhenEvery, Arg: 9, Do: api.DoCast, Value: 9},
				{Phase: 2, When: api.WhenAfter, Arg: 99, Do: api.DoSay, Value: 3},
				{Phase: 3, When: api.WhenAfter, Arg: 5, Do: api.DoRage, Value: 20},
			}, Hoard: []api.Prize{{Item: 7, Weight: 1}, {Item: 8, Weight: 2}}},
			{Id: 11, Health: 8, Every: 1, Hoard: []api.Prize{{Item: 9, Weight: 3}}, Script: []api.Line{
				{Phase: 1, When: api.WhenEvery, Arg: 4, Do: api.DoCast, Value: 2},
			}},
		},
		Map:  api.Grid{W: 3, H: 2, Wall: []bool{false, true, false, false, false, false}},
		Door: tile(0, 0),
		Lair: tile(2, 1),
	}
}

// bare answers content that is right, of a map of one tile alone.
func bare() api.Content {
	return api.Content{Map: api.Grid{W: 1, H: 1, Wall: make([]bool, 1)}}
}

// flaw spells one short.
func flaw(part, at int) api.Flaw { return api.Flaw{Part: part, At: at} }

// right holds content to be right.
func right(t *testing.T, name string, c api.Content) {
	t.Helper()
	if got, ok := content.Check(c); got != (api.Flaw{}) || !ok {
		t.Errorf("%s: Check: %v, %t, not right", name, got, ok)
	}
	if !content.Right(c) {
		t.Errorf("%s: Right: false", name)
	}
}

// wrong holds content to have this flaw ahead of all others.
func wrong(t *testing.T, name string, c api.Content, want api.Flaw) {
	t.Helper()
	if got, ok := content.Check(c); got != want || ok {
		t.Errorf("%s: Check: %v, %t, not %v", name, got, ok, want)
	}
	if content.Right(c) {
		t.Errorf("%s: Right: true", name)
	}
}

// holds holds content to be right, or to have this flaw.
func holds(t *testing.T, name string, c api.Content, is bool, want api.Flaw) {
	t.Helper()
	if is {
		right(t, name, c)
	} else {
		wrong(t, name, c, want)
	}
}

// number is one of content, what it is at least and at most, and where the
// flaw is, if it is neither.
type number struct {
	name        string
	set         func(c *api.Content, n int)
	least, most int
	flaw        api.Flaw
}

// about are numbers at the ends of a range, just beside them, far off, and at
// the ends of all numbers; some would lie in the range, if they were cut.
func about(least, most int) []int {
	list := []int{
		api.MinInt, api.MinInt + 1, -1 << 32, -1<<32 + most, -most, -most - 1, -1, 0, 1,
		least - 1, least, least + 1, (least + most) / 2, most - 1, most, most + 1,
		1 << 32, 1<<32 + least, 1<<32 + most, 1 << 62, api.MaxInt - 1, api.MaxInt,
	}
	slices.Sort(list)
	return slices.Compact(list)
}

// each asks each of the numbers at the ends of its range.
func each(t *testing.T, list []number) {
	t.Helper()
	for _, one := range list {
		for _, n := range about(one.least, one.most) {
			c := sound()
			one.set(&c, n)
			name := fmt.Sprintf("%s %d", one.name, n)
			holds(t, name, c, one.least <= n && n <= one.most, one.flaw)
		}
	}
}

func TestP9_1Examples(t *testing.T) {
	right(t, "none, but a map of one tile", bare())
	c := bare()
	c.Abilities = []api.Ability{{Id: 1, Effects: []api.Effect{{Kind: api.EffectHurt}}}}
	wrong(t, "an ability with Charges 0", c, flaw(api.PartAbility, 0))
	c.Abilities[0].Charges = 1
	right(t, "an ability with Charges 1", c)
}

func TestP9_1RightContent(t *testing.T) {
	right(t, "sound", sound())
	c := sound()
	c.Abilities[2].Sight, c.Abilities[0].Sight = true, false
	c.Auras[0].Harm, c.Auras[5].Harm, c.Auras[1].Harm = false, false, true
	right(t, "Sight and Harm turned", c)
	c = sound()
	c.Foes = nil
	right(t, "no foes", c)
	c.Abilities = nil
	right(t, "nor abilities", c)
	c.Auras = nil
	right(t, "nor auras", c)
}

func TestP9_1EmptyContent(t *testing.T) {
	wrong(t, "empty in all", api.Content{}, flaw(api.PartMap, 0))
	wrong(t, "empty lists", api.Content{
		Abilities: []api.Ability{}, Auras: []api.Aura{}, Foes: []api.Foe{}, Map: api.Grid{Wall: []bool{}},
	}, flaw(api.PartMap, 0))
	c := bare()
	c.Abilities, c.Auras, c.Foes = []api.Ability{}, []api.Aura{}, []api.Foe{}
	right(t, "empty lists, and a map", c)
	c = bare()
	c.Abilities = []api.Ability{{}}
	wrong(t, "an empty ability", c, flaw(api.PartAbility, 0))
	c = bare()
	c.Auras = []api.Aura{{}}
	wrong(t, "an empty aura", c, flaw(api.PartAura, 0))
	c = bare()
	c.Foes = []api.Foe{{}}
	wrong(t, "an empty foe", c, flaw(api.PartFoe, 0))
}

func TestP9_1NumbersOfAnAbility(t *testing.T) {
	at := flaw(api.PartAbility, 1)
	each(t, []number{
		{"Cast", func(c *api.Content, n int) { c.Abilities[1].Cast = n }, 0, most, at},
		{"Cool", func(c *api.Content, n int) { c.Abilities[1].Cool = n }, 0, most, at},
		{"Range", func(c *api.Content, n int) { c.Abilities[1].Range = n }, 0, most, at},
		{"Cost", func(c *api.Content, n int) { c.Abilities[1].Cost = n }, 0, most, at},
		{"Charges", func(c *api.Content, n int) { c.Abilities[1].Charges = n }, 1, api.MaxStacks, at},
	})
}

// effectKinds are the kinds of effects but EffectAura.
func effectKinds() []int {
	return []int{api.EffectHurt, api.EffectHeal, api.EffectPower, api.EffectTaunt, api.EffectDispel, api.EffectMove}
}

func TestP9_1NumbersOfAnEffect(t *testing.T) {
	at := flaw(api.PartAbility, 2)
	for _, kind := range effectKinds() {
		for place := range 2 {
			each(t, []number{
				{fmt.Sprint("Amount of Kind ", kind), func(c *api.Content, n int) {
					c.Abilities[2].Effects[place] = api.Effect{Kind: kind, Amount: n}
				}, 0, most, at},
				{fmt.Sprint("Aura of Kind ", kind), func(c *api.Content, n int) {
					c.Abilities[2].Effects[place] = api.Effect{Kind: kind, Amount: 1, Aura: n}
				}, 0, 0, at},
			})
		}
	}
	each(t, []number{
		{"Amount of EffectAura", func(c *api.Content, n int) {
			c.Abilities[2].Effects[1] = api.Effect{Kind: api.EffectAura, Amount: n, Aura: 4}
		}, 0, 0, at},
		{"Kind", func(c *api.Content, n int) {
			c.Abilities[2].Effects[1] = api.Effect{Kind: n, Aura: 4}
		}, api.EffectAura, api.EffectAura, at},
	})
}

func TestP9_1KindsOfEffects(t *testing.T) {
	for _, kind := range about(api.EffectHurt, api.EffectMove) {
		c := sound()
		c.Abilities[1].Effects[0] = api.Effect{Kind: kind, Amount: 3}
		name := fmt.Sprintf("Kind %d with an Amount", kind)
		holds(t, name, c, slices.Contains(effectKinds(), kind), flaw(api.PartAbility, 1))
		c.Abilities[1].Effects[0] = api.Effect{Kind: kind}
		name = fmt.Sprintf("Kind %d alone", kind)
		holds(t, name, c, slices.Contains(effectKinds(), kind), flaw(api.PartAbility, 1))
	}
}

func TestP9_1AuraOfAnEffect(t *testing.T) {
	there := []int{1, 4, 6, 7, 8, 12}
	for _, id := range append(about(0, 14), 2, 3, 5, 9, 10, 11) {
		c := sound()
		c.Abilities[1].Effects[0] = api.Effect{Kind: api.EffectAura, Aura: id}
		holds(t, fmt.Sprint("Aura ", id), c, slices.Contains(there, id), flaw(api.PartAbility, 1))
		c.Abilities[1].Effects[0].Amount = 1
		wrong(t, fmt.Sprint("an Amount and Aura ", id), c, flaw(api.PartAbility, 1))
		c.Abilities[1].Effects[0] = api.Effect{Kind: api.EffectHurt, Aura: id}
		holds(t, fmt.Sprint("EffectHurt, Aura ", id), c, id == 0, flaw(api.PartAbility, 1))
	}
}

func TestP9_1AuraOfAnEffectOfAnyId(t *testing.T) {
	effect := func(id int) []api.Ability {
		return []api.Ability{{Id: 1, Charges: 1, Effects: []api.Effect{{Kind: api.EffectAura, Aura: id}}}}
	}
	for _, id := range []int{most, most + 1, 1 << 32, api.MaxInt} {
		c := bare()
		c.Abilities = effect(id)
		wrong(t, fmt.Sprint("no aura of Id ", id), c, flaw(api.PartAbility, 0))
		c.Auras = []api.Aura{{Id: id, Kind: api.AuraRoot, Ticks: 1, Stacks: 1}}
		right(t, fmt.Sprint("an aura of Id ", id), c)
	}
	for _, id := range []int{api.MinInt, -1, 0} {
		c := bare()
		c.Abilities = effect(id)
		c.Auras = []api.Aura{{Id: id, Kind: api.AuraRoot, Ticks: 1, Stacks: 1}}
		wrong(t, fmt.Sprint("an aura that is there, of Id ", id), c, flaw(api.PartAura, 0))
	}
	c := bare()
	c.Abilities, c.Auras = effect(5), []api.Aura{{Id: 5}}
	wrong(t, "an aura that is there, but not right", c, flaw(api.PartAura, 0))
	c.Auras = auras(api.MaxRows + 9)
	c.Abilities = effect(api.MaxRows + 9)
	wrong(t, "an aura that is there, beyond MaxRows", c, flaw(api.PartAura, api.MaxRows))
}

func TestP9_1HowManyEffects(t *testing.T) {
	for _, n := range []int{0, 1, 2, api.MaxList - 1, api.MaxList, api.MaxList + 1, api.MaxList + 2, 200} {
		c := sound()
		c.Abilities[1].Effects = slices.Repeat([]api.Effect{{Kind: api.EffectHurt, Amount: 1}}, n)
		holds(t, fmt.Sprint(n, " effects"), c, 1 <= n && n <= api.MaxList, flaw(api.PartAbility, 1))
	}
	c := sound()
	c.Abilities[1].Effects = nil
	wrong(t, "nil effects", c, flaw(api.PartAbility, 1))
	c.Abilities[1].Effects = make([]api.Effect, 0, 9)
	wrong(t, "room for effects", c, flaw(api.PartAbility, 1))
	c.Abilities[1].Effects = append(make([]api.Effect, 0, 99), api.Effect{Kind: api.EffectHurt})
	right(t, "room behind effects", c)
}

func TestP9_1EachEffectIsAsked(t *testing.T) {
	for i := range api.MaxList {
		c := sound()
		c.Abilities[2].Effects = slices.Repeat([]api.Effect{{Kind: api.EffectHurt}}, api.MaxList)
		c.Abilities[2].Effects[i].Amount = -1
		wrong(t, fmt.Sprint("the effect ", i), c, flaw(api.PartAbility, 2))
	}
}

// auraOf answers sound content with an aura of that Kind at the place 1.
func auraOf(kind int) (api.Content, *api.Aura) {
	c := sound()
	a := &c.Auras[1]
	*a = api.Aura{Id: a.Id, Kind: kind, Ticks: 1, Stacks: 1}
	if kind == api.AuraHurt || kind == api.AuraHeal {
		a.Every = 1
	}
	return c, a
}

// auraKinds are all kinds of auras, and the ends of Every and of Amount.
func auraKinds() map[int][4]int {
	return map[int][4]int{
		api.AuraHurt:   {1, most, 0, most},
		api.AuraHeal:   {1, most, 0, most},
		api.AuraOut:    {0, 0, -100, 1000},
		api.AuraIn:     {0, 0, -100, 1000},
		api.AuraShield: {0, 0, 0, most},
		api.AuraRoot:   {0, 0, 0, most},
	}
}

func TestP9_1NumbersOfAnAura(t *testing.T) {
	at := flaw(api.PartAura, 1)
	for kind, ends := range auraKinds() {
		with := func(set func(a *api.Aura, n int)) func(*api.Content, int) {
			return func(c *api.Content, n int) {
				made, a := auraOf(kind)
				set(a, n)
				*c = made
			}
		}
		of := fmt.Sprint(" of Kind ", kind)
		each(t, []number{
			{"Ticks" + of, with(func(a *api.Aura, n int) { a.Ticks = n }), 1, most, at},
			{"Every" + of, with(func(a *api.Aura, n int) { a.Every = n }), ends[0], ends[1], at},
			{"Stacks" + of, with(func(a *api.Aura, n int) { a.Stacks = n }), 1, api.MaxStacks, at},
			{"Amount" + of, with(func(a *api.Aura, n int) { a.Amount = n }), ends[2], ends[3], at},
		})
	}
}

func TestP9_1EveryOfEachKind(t *testing.T) {
	for kind := range auraKinds() {
		ticks := kind == api.AuraHurt || kind == api.AuraHeal
		c, a := auraOf(kind)
		a.Every = 0
		holds(t, fmt.Sprintf("Kind %d, Every 0", kind), c, !ticks, flaw(api.PartAura, 1))
		a.Every = 1
		holds(t, fmt.Sprintf("Kind %d, Every 1", kind), c, ticks, flaw(api.PartAura, 1))
		a.Every = -1
		wrong(t, fmt.Sprintf("Kind %d, Every -1", kind), c, flaw(api.PartAura, 1))
	}
}

func TestP9_1KindsOfAuras(t *testing.T) {
	for _, kind := range about(api.AuraHurt, api.AuraRoot) {
		_, is := auraKinds()[kind]
		c, _ := auraOf(kind)
		holds(t, fmt.Sprint("Kind ", kind), c, is, flaw(api.PartAura, 1))
		for every := range 2 {
			for _, amount := range []int{-1, 0, 1} {
				if !is {
					c, a := auraOf(kind)
					a.Every, a.Amount = every, amount
					wrong(t, fmt.Sprintf("Kind %d, Every %d", kind, every), c, flaw(api.PartAura, 1))
				}
			}
		}
	}
}

func TestP9_1NumbersOfAFoe(t *testing.T) {
	at := flaw(api.PartFoe, 1)
	each(t, []number{
		{"Health", func(c *api.Content, n int) { c.Foes[1].Health = n }, 1, most, at},
		{"Hit", func(c *api.Content, n int) { c.Foes[1].Hit = n }, 0, most, at},
		{"Every", func(c *api.Content, n int) { c.Foes[1].Every = n }, 1, most, at},
		{"Reach", func(c *api.Content, n int) { c.Foes[1].Reach = n }, 0, most, at},
		{"Drops", func(c *api.Content, n int) { c.Foes[1].Drops = n }, 0, api.MaxList, at},
		{"Item", func(c *api.Content, n int) { c.Foes[1].Hoard[0].Item = n }, 1, most, at},
		{"Weight", func(c *api.Content, n int) { c.Foes[1].Hoard[0].Weight = n }, 1, most, at},
	})
}

func TestP9_1DropsAndPrizes(t *testing.T) {
	cases := []struct {
		drops, prizes int
		is            bool
	}{
		{0, 0, true}, {0, 1, true}, {0, api.MaxList, true}, {0, api.MaxList + 1, false},
		{1, 0, false}, {1, 1, true}, {1, api.MaxList, true}, {1, api.MaxList + 1, false},
		{2, 1, true}, {api.MaxList, 0, false}, {api.MaxList, 1, true}, {api.MaxList, api.MaxList, true},
		{api.MaxList + 1, 0, false}, {api.MaxList + 1, api.MaxList + 1, false}, {api.MaxList + 1, 3, false},
		{-1, 0, false}, {-1, 1, false}, {-1, api.MaxList, false}, {0, 99, false}, {1, 99, false},
		{api.MinInt, 0, false}, {api.MaxInt, 1, false}, {1 << 32, 1, false},
	}
	for _, one := range cases {
		c := sound()
		c.Foes[0].Drops = one.drops
		c.Foes[0].Hoard = slices.Repeat([]api.Prize{{Item: 1, Weight: 1}}, one.prizes)
		holds(t, fmt.Sprintf("%d drops of %d prizes", one.drops, one.prizes), c, one.is, flaw(api.PartFoe, 0))
	}
	c := sound()
	c.Foes[0].Drops, c.Foes[0].Hoard = 1, make([]api.Prize, 0, 9)
	wrong(t, "room for prizes", c, flaw(api.PartFoe, 0))
	c.Foes[0].Drops, c.Foes[0].Hoard = 0, nil
	right(t, "no prizes", c)
}

func TestP9_1EachPrizeIsAsked(t *testing.T) {
	for i := range api.MaxList {
		for _, bad := range []api.Prize{{}, {Item: 1}, {Weight: 1}, {Item: most + 1, Weight: 1}, {Item: 1, Weight: most + 1}} {
			c := sound()
			c.Foes[1].Hoard = slices.Repeat([]api.Prize{{Item: 3, Weight: 2}}, api.MaxList)
			right(t, "prizes that are alike", c)
			c.Foes[1].Hoard[i] = bad
			wrong(t, fmt.Sprintf("the prize %d: %v", i, bad), c, flaw(api.PartFoe, 1))
			c.Foes[1].Drops = 3
			wrong(t, fmt.Sprintf("the prize %d of three drops: %v", i, bad), c, flaw(api.PartFoe, 1))
		}
	}
	c := sound()
	c.Foes[1].Hoard = slices.Repeat([]api.Prize{{Item: most, Weight: most}}, api.MaxList)
	right(t, "prizes that weigh most", c)
}

func TestP9_1HowManyLines(t *testing.T) {
	line := api.Line{Phase: 1, When: api.WhenAfter, Arg: 1, Do: api.DoSay}
	for _, n := range []int{0, 1, 2, api.MaxList - 1, api.MaxList, api.MaxList + 1, api.MaxList + 2, 200} {
		c := sound()
		c.Foes[0].Script = slices.Repeat([]api.Line{line}, n)
		holds(t, fmt.Sprint(n, " lines"), c, n <= api.MaxList, flaw(api.PartFoe, 0))
	}
	for i := range api.MaxList {
		c := sound()
		c.Foes[0].Script = slices.Repeat([]api.Line{line}, api.MaxList)
		c.Foes[0].Script[i].Phase = 0
		wrong(t, fmt.Sprint("the line ", i), c, flaw(api.PartFoe, 0))
	}
	c := sound()
	c.Foes[0].Script = make([]api.Line, 0, 99)
	right(t, "room for lines", c)
}

// lineIs answers numbers of a line of the last foe, which is this one but for
// what is asked.
func lineIs(name string, line api.Line, set func(l *api.Line, n int), least, most int) number {
	return number{fmt.Sprintf("%s of %v", name, line), func(c *api.Content, n int) {
		c.Foes[1].Script = []api.Line{line}
		set(&c.Foes[1].Script[0], n)
	}, least, most, flaw(api.PartFoe, 1)}
}

func TestP9_1NumbersOfALine(t *testing.T) {
	phase := func(l *api.Line, n int) { l.Phase = n }
	arg := func(l *api.Line, n int) { l.Arg = n }
	value := func(l *api.Line, n int) { l.Value = n }
	args := map[int]int{api.WhenBelow: 100, api.WhenEvery: most, api.WhenAfter: most}
	values := map[int][2]int{api.DoPhase: {1, 100}, api.DoCast: {5, 5}, api.DoSay: {0, most}, api.DoRage: {0, most}}
	for when, mostArg := range args {
		for do, ends := range values {
			line := api.Line{Phase: 1, When: when, Arg: 1, Do: do, Value: 5}
			list := []number{
				lineIs("Phase", line, phase, 1, 100),
				lineIs("Arg", line, arg, 1, mostArg),
			}
			if do != api.DoCast {
				list = append(list, lineIs("Value", line, value, ends[0], ends[1]))
			}
			each(t, list)
		}
	}
}

func TestP9_1KindsOfALine(t *testing.T) {
	line := api.Line{Phase: 1, When: 1, Arg: 1, Do: 1, Value: 2}
	each(t, []number{
		lineIs("When", line, func(l *api.Line, n int) { l.When = n }, 1, 3),
		lineIs("Do", line, func(l *api.Line, n int) { l.Do = n }, 1, 4),
	})
	for when := -1; when <= 5; when++ {
		for do := -1; do <= 6; do++ {
			c := sound()
			c.Foes[1].Script = []api.Line{{Phase: 9, When: when, Arg: 9, Do: do, Value: 9}}
			is := 1 <= when && when <= 3 && 1 <= do && do <= 4
			holds(t, fmt.Sprintf("When %d, Do %d", when, do), c, is, flaw(api.PartFoe, 1))
		}
	}
}

func TestP9_1DoCastOfAnAbility(t *testing.T) {
	for _, id := range append(about(0, 13), 1, 3, 4, 6, 7, 8, 11, 12, most) {
		c := sound()
		c.Foes[1].Script[0].Value = id
		is := id == 2 || id == 5 || id == 9
		holds(t, fmt.Sprint("DoCast of ", id), c, is, flaw(api.PartFoe, 1))
	}
	for _, id := range []int{1, most - 1, most, most + 1, 1 << 32, api.MaxInt} {
		c := bare()
		c.Abilities = []api.Ability{{Id: id, Charges: 1, Effects: []api.Effect{{Kind: api.EffectHurt}}}}
		right(t, fmt.Sprint("an ability of Id ", id), c)
		c.Foes = []api.Foe{{Id: 1, Health: 1, Every: 1, Script: []api.Line{{Phase: 1, When: 2, Arg: 1, Do: api.DoCast, Value: id}}}}
		holds(t, fmt.Sprint("DoCast of an ability that is there, of Id ", id), c, id <= most, flaw(api.PartFoe, 0))
	}
	c := bare()
	c.Foes = []api.Foe{{Id: 1, Health: 1, Every: 1, Script: []api.Line{{Phase: 1, When: 2, Arg: 1, Do: api.DoCast}}}}
	wrong(t, "DoCast without abilities", c, flaw(api.PartFoe, 0))
}

// abilities, auras, foes answer so many rows that are right, of the Ids from
// 1 on.
func abilities(n int) []api.Ability {
	var list []api.Ability
	for i := range n {
		list = append(list, api.Ability{Id: i + 1, Charges: 1, Effects: []api.Effect{{Kind: api.EffectHurt}}})
	}
	return list
}

func auras(n int) []api.Aura {
	var list []api.Aura
	for i := range n {
		list = append(list, api.Aura{Id: i + 1, Kind: api.AuraRoot, Ticks: 1, Stacks: 1})
	}
	return list
}

func foes(n int) []api.Foe {
	var list []api.Foe
	for i := range n {
		list = append(list, api.Foe{Id: i + 1, Health: 1, Every: 1})
	}
	return list
}

// part is one that has rows: it fills content with so many that are right,
// gives one of them an Id, and spoils one.
type part struct {
	number int
	fill   func(c *api.Content, n int)
	id     func(c *api.Content, at, id int)
	spoil  func(c *api.Content, at int)
}

func parts() map[string]part {
	return map[string]part{
		"abilities": {
			api.PartAbility,
			func(c *api.Content, n int) { c.Abilities = abilities(n) },
			func(c *api.Content, at, id int) { c.Abilities[at].Id = id },
			func(c *api.Content, at int) { c.Abilities[at].Charges = 0 },
		},
		"auras": {
			api.PartAura,
			func(c *api.Content, n int) { c.Auras = auras(n) },
			func(c *api.Content, at, id int) { c.Auras[at].Id = id },
			func(c *api.Content, at int) { c.Auras[at].Kind = 7 },
		},
		"foes": {
			api.PartFoe,
			func(c *api.Content, n int) { c.Foes = foes(n) },
			func(c *api.Content, at, id int) { c.Foes[at].Id = id },
			func(c *api.Content, at int) { c.Foes[at].Health = 0 },
		},
	}
}

func TestP9_1IdsRise(t *testing.T) {
	const none = -1
	cases := []struct {
		ids []int
		at  int
	}{
		{[]int{1}, none}, {[]int{2}, none}, {[]int{most}, none}, {[]int{most + 1}, none}, {[]int{api.MaxInt}, none},
		{[]int{0}, 0}, {[]int{-1}, 0}, {[]int{-1 << 32}, 0}, {[]int{api.MinInt}, 0},
		{[]int{1, 2, 3}, none}, {[]int{1, 3, 9}, none}, {[]int{7, 8, api.MaxInt}, none}, {[]int{1, 1 << 32, 1<<32 + 1}, none},
		{[]int{0, 1, 2}, 0}, {[]int{-1, 0, 1}, 0}, {[]int{-2, 5, 6}, 0}, {[]int{api.MinInt, api.MaxInt}, 0},
		{[]int{1, 1, 2}, 1}, {[]int{1, 2, 2}, 2}, {[]int{5, 5, 5}, 1}, {[]int{api.MaxInt, api.MaxInt}, 1}, {[]int{0, 0}, 0},
		{[]int{2, 1, 3}, 1}, {[]int{1, 3, 2}, 2}, {[]int{3, 2, 1}, 1}, {[]int{1, 9, 8, 10}, 2},
		{[]int{4, 0, 5}, 1}, {[]int{4, -3, 5}, 1}, {[]int{4, 5, api.MinInt}, 2}, {[]int{api.MaxInt, api.MinInt}, 1},
		{[]int{1, 2, 1}, 2}, {[]int{3, 5, 4, 5}, 2}, {[]int{3, 5, 4, 6, 6}, 2}, {[]int{1, 1 << 32, 2}, 2},
	}
	for name, p := range parts() {
		for _, one := range cases {
			c := bare()
			p.fill(&c, len(one.ids))
			for i, id := range one.ids {
				p.id(&c, i, id)
			}
			holds(t, fmt.Sprint(name, " of Ids ", one.ids), c, one.at == none, flaw(p.number, one.at))
		}
	}
}

func TestP9_1IdsOfPartsAreApart(t *testing.T) {
	c := bare()
	c.Abilities, c.Auras, c.Foes = abilities(3), auras(3), foes(3)
	right(t, "parts of alike Ids", c)
}

func TestP9_1PlaceOfTheFirstFlaw(t *testing.T) {
	for name, p := range parts() {
		for first := range 6 {
			for second := first; second < 6; second++ {
				c := bare()
				p.fill(&c, 6)
				p.spoil(&c, second)
				p.spoil(&c, first)
				wrong(t, fmt.Sprintf("%s, flaws at %d and %d", name, first, second), c, flaw(p.number, first))
				c = bare()
				p.fill(&c, 6)
				p.spoil(&c, second)
				p.id(&c, first, 0)
				wrong(t, fmt.Sprintf("%s, an Id at %d, a flaw at %d", name, first, second), c, flaw(p.number, first))
				c = bare()
				p.fill(&c, 6)
				p.id(&c, second, 0)
				p.spoil(&c, first)
				wrong(t, fmt.Sprintf("%s, a flaw at %d, an Id at %d", name, first, second), c, flaw(p.number, first))
			}
		}
	}
}

func TestP9_1MaxRows(t *testing.T) {
	const rows = api.MaxRows
	for name, p := range parts() {
		for _, n := range []int{0, 1, rows - 1, rows, rows + 1, rows + 2, 3 * rows, 1 << 16} {
			c := bare()
			p.fill(&c, n)
			holds(t, fmt.Sprint(n, " ", name), c, n <= rows, flaw(p.number, rows))
		}
		for _, n := range []int{rows, rows + 1, rows + 5} {
			for _, at := range []int{0, 1, rows / 2, rows - 1, rows, rows + 1, rows + 4} {
				if at >= n {
					continue
				}
				c := bare()
				p.fill(&c, n)
				p.spoil(&c, at)
				wrong(t, fmt.Sprintf("%d %s, a flaw at %d", n, name, at), c, flaw(p.number, min(at, rows)))
				c = bare()
				p.fill(&c, n)
				p.id(&c, at, 0)
				wrong(t, fmt.Sprintf("%d %s, an Id at %d", n, name, at), c, flaw(p.number, min(at, rows)))
			}
		}
	}
}

func TestP9_1OrderOfTheParts(t *testing.T) {
	for bad := range 16 {
		c := bare()
		c.Abilities, c.Auras, c.Foes = abilities(5), auras(5), foes(5)
		want := api.Flaw{}
		if bad&8 != 0 {
			c.Map.Wall, want = nil, flaw(api.PartMap, 0)
		}
		if bad&4 != 0 {
			c.Foes[1].Every, want = 0, flaw(api.PartFoe, 1)
		}
		if bad&2 != 0 {
			c.Auras[3].Ticks, want = 0, flaw(api.PartAura, 3)
		}
		if bad&1 != 0 {
			c.Abilities[4].Range, want = -1, flaw(api.PartAbility, 4)
		}
		holds(t, fmt.Sprintf("parts %04b", bad), c, bad == 0, want)
	}
}

func TestP9_1OrderOfPartsThatAreTooLong(t *testing.T) {
	const rows = api.MaxRows
	c := bare()
	c.Abilities, c.Auras, c.Foes = abilities(rows+1), auras(rows+1), foes(rows+1)
	c.Auras[0].Kind, c.Foes[0].Health, c.Map.W = 0, 0, 0
	wrong(t, "abilities ahead of all", c, flaw(api.PartAbility, rows))
	c.Abilities = c.Abilities[:rows]
	wrong(t, "an aura ahead of too many", c, flaw(api.PartAura, 0))
	c.Auras[0].Kind = api.AuraRoot
	wrong(t, "auras ahead of foes", c, flaw(api.PartAura, rows))
	c.Auras = c.Auras[:rows]
	wrong(t, "a foe ahead of too many", c, flaw(api.PartFoe, 0))
	c.Foes[0].Health = 1
	wrong(t, "foes ahead of the map", c, flaw(api.PartFoe, rows))
	c.Foes = c.Foes[:rows]
	wrong(t, "the map at last", c, flaw(api.PartMap, 0))
	c.Map.W = 1
	right(t, "nothing any more", c)
}

func TestP9_1Map(t *testing.T) {
	at := flaw(api.PartMap, 0)
	side := api.MaxSide
	grids := []struct {
		w, h, n int
		is      bool
	}{
		{1, 1, 1, true}, {1, side, side, true}, {side, 1, side, true}, {side, side, side * side, true}, {3, 2, 6, true},
		{0, 0, 0, false}, {0, 1, 0, false}, {1, 0, 0, false}, {1, 1, 0, false}, {1, 1, 2, false}, {3, 2, 5, false}, {3, 2, 7, false},
		{side + 1, 1, side + 1, false}, {1, side + 1, side + 1, false}, {-1, -1, 1, false}, {0, 0, 1, false},
		{api.MaxInt, 1, 1, false}, {1, api.MinInt, 1, false}, {1 << 32, 1 << 32, 0, false},
	}
	for _, one := range grids {
		c := sound()
		c.Door, c.Lair = tile(0, 0), tile(0, 0)
		c.Map = api.Grid{W: one.w, H: one.h, Wall: make([]bool, one.n)}
		holds(t, fmt.Sprintf("%d by %d with %d", one.w, one.h, one.n), c, one.is, at)
	}
	c := sound()
	c.Map = api.Grid{}
	wrong(t, "no map", c, at)
}

func TestP9_1DoorAndLair(t *testing.T) {
	at := flaw(api.PartMap, 0)
	free := []api.Pos{tile(0, 0), tile(2, 0), tile(0, 1), tile(1, 1), tile(2, 1)}
	beyond := []api.Pos{
		tile(1, 0), tile(-1, 0), tile(0, -1), tile(3, 0), tile(0, 2), tile(3, 2), tile(-1, -1), tile(3, 1), tile(2, 2), tile(-1, 1),
		tile(api.MinInt, 0), tile(0, api.MinInt), tile(api.MaxInt, 0), tile(0, api.MaxInt), tile(1<<32, 0), tile(0, 1<<32),
		tile(api.MaxInt, api.MaxInt), tile(api.MinInt, api.MinInt),
	}
	for _, door := range slices.Concat(free, beyond) {
		for _, lair := range slices.Concat(free, beyond) {
			c := sound()
			c.Door, c.Lair = door, lair
			is := slices.Contains(free, door) && slices.Contains(free, lair)
			holds(t, fmt.Sprint("Door ", door, " Lair ", lair), c, is, at)
		}
	}
	c := bare()
	c.Map.Wall[0] = true
	wrong(t, "a map that is all wall", c, at)
}

// between answers whether n is one of the numbers from least to most.
func between(n, least, most int) bool { return least <= n && n <= most }

// plainEffect, plainAura, plainLine, plainFoe, plainAbility ask what the
// document's words ask, one after the other.
func plainEffect(c api.Content, e api.Effect) bool {
	isAura := e.Kind == api.EffectAura
	there := slices.ContainsFunc(c.Auras, func(a api.Aura) bool { return a.Id == e.Aura })
	ok := between(e.Kind, 1, 7) && between(e.Amount, 0, most)
	ok = ok && (!isAura || e.Amount == 0)
	return ok && (isAura && there || !isAura && e.Aura == 0)
}

func plainAbility(c api.Content, a api.Ability) bool {
	ok := between(len(a.Effects), 1, 16) && between(a.Charges, 1, 100)
	for _, n := range []int{a.Cast, a.Cool, a.Range, a.Cost} {
		ok = ok && between(n, 0, most)
	}
	for _, e := range a.Effects {
		ok = ok && plainEffect(c, e)
	}
	return ok
}

func plainAura(a api.Aura) bool {
	ok := between(a.Kind, 1, 6) && between(a.Ticks, 1, most) && between(a.Every, 0, most) && between(a.Stacks, 1, 100)
	if a.Kind == api.AuraHurt || a.Kind == api.AuraHeal {
		ok = ok && a.Every >= 1
	} else {
		ok = ok && a.Every == 0
	}
	if a.Kind == api.AuraOut || a.Kind == api.AuraIn {
		return ok && between(a.Amount, -100, 1000)
	}
	return ok && between(a.Amount, 0, most)
}

func plainLine(c api.Content, l api.Line) bool {
	there := slices.ContainsFunc(c.Abilities, func(a api.Ability) bool { return a.Id == l.Value })
	ok := between(l.Phase, 1, 100) && between(l.When, 1, 3) && between(l.Do, 1, 4)
	ok = ok && between(l.Arg, 1, most) && (l.When != api.WhenBelow || l.Arg <= 100)
	ok = ok && between(l.Value, 0, most)
	ok = ok && (l.Do != api.DoPhase || between(l.Value, 1, 100))
	return ok && (l.Do != api.DoCast || there)
}

func plainFoe(c api.Content, f api.Foe) bool {
	ok := between(f.Health, 1, most) && between(f.Hit, 0, most) && between(f.Reach, 0, most) && between(f.Every, 1, most)
	ok = ok && between(f.Drops, 0, 16) && len(f.Script) <= 16 && len(f.Hoard) <= 16
	ok = ok && (f.Drops == 0 || len(f.Hoard) > 0)
	for _, l := range f.Script {
		ok = ok && plainLine(c, l)
	}
	for _, p := range f.Hoard {
		ok = ok && between(p.Item, 1, most) && between(p.Weight, 1, most)
	}
	return ok
}

// plainRows answers the first place of those that are wrong, or -1.
func plainRows(n int, id func(int) int, is func(int) bool) int {
	for i := range min(n, api.MaxRows) {
		rises := id(i) >= 1 && (i == 0 || id(i) > id(i-1))
		if !rises || !is(i) {
			return i
		}
	}
	if n > api.MaxRows {
		return api.MaxRows
	}
	return -1
}

func plainTile(g api.Grid, p api.Pos) bool {
	return between(p.X, 0, g.W-1) && between(p.Y, 0, g.H-1) && !g.Wall[p.Y*g.W+p.X]
}

func plainCheck(c api.Content) (api.Flaw, bool) {
	places := []int{
		plainRows(len(c.Abilities), func(i int) int { return c.Abilities[i].Id }, func(i int) bool { return plainAbility(c, c.Abilities[i]) }),
		plainRows(len(c.Auras), func(i int) int { return c.Auras[i].Id }, func(i int) bool { return plainAura(c.Auras[i]) }),
		plainRows(len(c.Foes), func(i int) int { return c.Foes[i].Id }, func(i int) bool { return plainFoe(c, c.Foes[i]) }),
		0,
	}
	g := c.Map
	if between(g.W, 1, 256) && between(g.H, 1, 256) && len(g.Wall) == g.W*g.H && plainTile(g, c.Door) && plainTile(g, c.Lair) {
		places[3] = -1
	}
	for i, at := range places {
		if at >= 0 {
			return flaw(i+1, at), false
		}
	}
	return api.Flaw{}, true
}

// someNumber answers one that lies about the ends of some range of content.
func someNumber(source *rand.Rand) int {
	ends := []int{0, 0, 1, 1, 2, 3, 4, 5, 6, 7, 8, 9, 12, 16, 50, 100, -100, 1000, most, 1 << 32, api.MinInt, api.MaxInt}
	return ends[source.Intn(len(ends))] + source.Intn(3) - 1
}

// leaves goes over all that content is made of at last: numbers and truths.
func leaves(v reflect.Value, path string, visit func(path string, v reflect.Value)) {
	switch v.Kind() {
	case reflect.Struct:
		for i := range v.NumField() {
			leaves(v.Field(i), path+"."+v.Type().Field(i).Name, visit)
		}
	case reflect.Slice:
		for i := range v.Len() {
			leaves(v.Index(i), fmt.Sprintf("%s[%d]", path, i), visit)
		}
	default:
		visit(path, v)
	}
}

// lists goes over all lists of content, the outer ones ahead of those within.
func lists(v reflect.Value, path string, visit func(path string, v reflect.Value)) {
	switch v.Kind() {
	case reflect.Struct:
		for i := range v.NumField() {
			lists(v.Field(i), path+"."+v.Type().Field(i).Name, visit)
		}
	case reflect.Slice:
		visit(path, v)
		for i := range v.Len() {
			lists(v.Index(i), fmt.Sprintf("%s[%d]", path, i), visit)
		}
	}
}

// turn gives a number or a truth another value.
func turn(v reflect.Value) {
	if v.Kind() == reflect.Bool {
		v.SetBool(!v.Bool())
	} else {
		v.SetInt(v.Int() + 1)
	}
}

// someContent answers content that is right in all but some of its numbers.
func someContent(source *rand.Rand) api.Content {
	c := sound()
	var all []reflect.Value
	leaves(reflect.ValueOf(&c).Elem(), "", func(_ string, v reflect.Value) { all = append(all, v) })
	for range source.Intn(4) {
		if v := all[source.Intn(len(all))]; v.Kind() == reflect.Bool {
			v.SetBool(source.Intn(2) == 0)
		} else {
			v.SetInt(int64(someNumber(source)))
		}
	}
	return c
}

func TestP9_1CheckIsThePlainOne(t *testing.T) {
	source := rand.New(rand.NewSource(1))
	told := map[api.Flaw]int{}
	for range 30000 {
		c := someContent(source)
		got, ok := content.Check(c)
		want, is := plainCheck(c)
		if got != want || ok != is || content.Right(c) != is {
			t.Fatalf("%+v: %v, %t, not %v, %t", c, got, ok, want, is)
		}
		told[got]++
	}
	for part := api.PartAbility; part <= api.PartMap; part++ {
		if told[flaw(part, 0)] < 100 {
			t.Errorf("the part %d: %d flaws at 0 alone", part, told[flaw(part, 0)])
		}
	}
	if told[api.Flaw{}] < 1000 {
		t.Errorf("%d contents that are right", told[api.Flaw{}])
	}
}

func TestP9_1CheckAnswersAlikeAgain(t *testing.T) {
	source := rand.New(rand.NewSource(2))
	for range 2000 {
		c, other := someContent(source), someContent(source)
		first, is := content.Check(c)
		content.Check(other)
		if again, ok := content.Check(c); again != first || ok != is {
			t.Fatalf("%v, %t, and then %v, %t", first, is, again, ok)
		}
	}
}

// twins answers content that is not right: of each part several rows of an
// Id, that fall, and that are of 0 and below.
func twins() api.Content {
	return api.Content{
		Abilities: []api.Ability{
			{Id: 7, Cast: 1, Effects: []api.Effect{{Kind: 99, Amount: -1}}}, {Id: 3, Cast: 2}, {Id: 7, Cast: 3}, {Id: 0, Cast: 4},
			{Id: 3, Cast: 5}, {Id: -5, Cast: 6}, {Id: api.MinInt, Cast: 7}, {Id: api.MaxInt, Cast: 8}, {Id: 0, Cast: 9},
		},
		Auras: []api.Aura{
			{Id: 7, Kind: 1}, {Id: 3, Kind: 22}, {Id: 7, Kind: 3}, {Id: 0, Kind: 4},
			{Id: 3, Kind: 5}, {Id: -5, Kind: 6}, {Id: api.MinInt, Kind: 7}, {Id: api.MaxInt, Kind: 8}, {Id: 0, Kind: 9},
		},
		Foes: []api.Foe{
			{Id: 7, Hit: 1, Script: []api.Line{{Phase: -1}}, Hoard: []api.Prize{{Item: -2}}}, {Id: 3, Hit: 2}, {Id: 7, Hit: 3}, {Id: 0, Hit: 4},
			{Id: 3, Hit: 5}, {Id: -5, Hit: 6}, {Id: api.MinInt, Hit: 7}, {Id: api.MaxInt, Hit: 8}, {Id: 0, Hit: 9},
		},
		Map: api.Grid{W: -1, H: 5, Wall: []bool{true}},
	}
}

// finds holds what the three answer of an Id against the rows at a place, or
// against none.
func finds(t *testing.T, c api.Content, id, at int) {
	t.Helper()
	var ability api.Ability
	var aura api.Aura
	var foe api.Foe
	if at >= 0 {
		ability, aura, foe = c.Abilities[at], c.Auras[at], c.Foes[at]
	}
	if got, ok := content.Ability(c, id); !reflect.DeepEqual(got, ability) || ok != (at >= 0) {
		t.Errorf("Ability %d: %+v, %t, not %+v", id, got, ok, ability)
	}
	if got, ok := content.Aura(c, id); got != aura || ok != (at >= 0) {
		t.Errorf("Aura %d: %+v, %t, not %+v", id, got, ok, aura)
	}
	if got, ok := content.Foe(c, id); !reflect.DeepEqual(got, foe) || ok != (at >= 0) {
		t.Errorf("Foe %d: %+v, %t, not %+v", id, got, ok, foe)
	}
}

func TestP9_2TheFirstOfAnId(t *testing.T) {
	c := twins()
	for id, at := range map[int]int{7: 0, 3: 1, 0: 3, -5: 5, api.MinInt: 6, api.MaxInt: 7} {
		finds(t, c, id, at)
	}
	for _, id := range []int{1, 2, 4, 6, 8, -1, -7, 5, api.MinInt + 1, api.MaxInt - 1, 1 << 32, 1<<32 + 7} {
		finds(t, c, id, -1)
	}
}

func TestP9_2OfNoContent(t *testing.T) {
	for _, c := range []api.Content{{}, bare(), {Abilities: []api.Ability{}, Auras: []api.Aura{}, Foes: []api.Foe{}}} {
		for _, id := range []int{api.MinInt, -1, 0, 1, 2, api.MaxInt} {
			finds(t, c, id, -1)
		}
	}
}

func TestP9_2OfRightContent(t *testing.T) {
	c := sound()
	for id := -3; id <= 15; id++ {
		ability, found := content.Ability(c, id)
		at := slices.Index([]int{2, 5, 9}, id)
		if found != (at >= 0) || found && !reflect.DeepEqual(ability, c.Abilities[at]) || !found && !reflect.DeepEqual(ability, api.Ability{}) {
			t.Errorf("Ability %d: %+v, %t", id, ability, found)
		}
		aura, found := content.Aura(c, id)
		at = slices.Index([]int{1, 4, 6, 7, 8, 12}, id)
		if found != (at >= 0) || found && aura != c.Auras[at] || !found && aura != (api.Aura{}) {
			t.Errorf("Aura %d: %+v, %t", id, aura, found)
		}
		foe, found := content.Foe(c, id)
		at = slices.Index([]int{3, 11}, id)
		if found != (at >= 0) || found && !reflect.DeepEqual(foe, c.Foes[at]) || !found && !reflect.DeepEqual(foe, api.Foe{}) {
			t.Errorf("Foe %d: %+v, %t", id, foe, found)
		}
	}
}

func TestP9_2BeyondMaxRows(t *testing.T) {
	c := api.Content{Abilities: abilities(300), Auras: auras(300), Foes: foes(300)}
	for _, id := range []int{1, api.MaxRows, api.MaxRows + 1, 299, 300} {
		finds(t, c, id, id-1)
	}
	finds(t, c, 0, -1)
	finds(t, c, 301, -1)
}

func TestP9_2EachOfRowsThatFall(t *testing.T) {
	c := api.Content{Abilities: abilities(50), Auras: auras(50), Foes: foes(50)}
	slices.Reverse(c.Abilities)
	slices.Reverse(c.Auras)
	slices.Reverse(c.Foes)
	for id := 1; id <= 50; id++ {
		finds(t, c, id, 50-id)
	}
}

func TestP9_2ARowWithEmptyLists(t *testing.T) {
	c := api.Content{
		Abilities: []api.Ability{{Id: 1, Effects: []api.Effect{}}},
		Foes:      []api.Foe{{Id: 1, Script: []api.Line{}, Hoard: []api.Prize{}}},
	}
	if a, ok := content.Ability(c, 1); !ok || a.Id != 1 || len(a.Effects) != 0 {
		t.Errorf("%+v, %t", a, ok)
	}
	if f, ok := content.Foe(c, 1); !ok || f.Id != 1 || len(f.Script) != 0 || len(f.Hoard) != 0 {
		t.Errorf("%+v, %t", f, ok)
	}
}

// someContents are right ones, wrong ones, and ones with hardly anything.
func someContents() map[string]api.Content {
	long := bare()
	long.Abilities, long.Auras, long.Foes = abilities(api.MaxRows+1), auras(api.MaxRows+1), foes(api.MaxRows+1)
	return map[string]api.Content{
		"nothing":            {},
		"bare":               bare(),
		"sound":              sound(),
		"twins":              twins(),
		"too long":           long,
		"empty lists within": {Abilities: []api.Ability{{Effects: []api.Effect{}}}, Foes: []api.Foe{{Script: []api.Line{}}, {Hoard: []api.Prize{}}}},
		"a map alone":        {Map: api.Grid{W: 30, H: 40, Wall: make([]bool, 30*40)}, Lair: tile(29, 39)},
	}
}

// alike holds Same of two, both ways.
func alike(t *testing.T, name string, a, b api.Content, want bool) {
	t.Helper()
	if content.Same(a, b) != want || content.Same(b, a) != want {
		t.Errorf("%s: Same: %t, %t", name, content.Same(a, b), content.Same(b, a))
	}
}

func TestP9_3CopyIsTheSame(t *testing.T) {
	for name, c := range someContents() {
		got := content.Copy(c)
		if !equal(got, c) {
			t.Errorf("%s: %+v, not %+v", name, got, c)
		}
		alike(t, name, got, c, true)
		alike(t, name+", twice", c, c, true)
		alike(t, name+", a copy's copy", content.Copy(got), c, true)
	}
}

// equal answers whether both are alike, as reflect tells, for which nil and
// empty lists are made alike first.
func equal(a, b api.Content) bool {
	for _, c := range []*api.Content{&a, &b} {
		*c = rebuilt(*c, 0)
	}
	return reflect.DeepEqual(a, b)
}

// rebuilt answers content in memory of its own, with that much room behind
// each list, of numbers that stand nowhere else; without room, each empty list
// is nil.
func rebuilt(c api.Content, room int) api.Content {
	lists(reflect.ValueOf(&c).Elem(), "", func(_ string, v reflect.Value) {
		if v.Len() == 0 && room == 0 {
			v.SetZero()
			return
		}
		made := reflect.MakeSlice(v.Type(), v.Len()+room, v.Len()+room)
		reflect.Copy(made, v)
		for i := v.Len(); i < made.Len(); i++ {
			leaves(made.Index(i), "", func(_ string, v reflect.Value) {
				if v.Kind() == reflect.Int {
					v.SetInt(77)
				}
			})
		}
		v.Set(made.Slice(0, v.Len()))
	})
	return c
}

func TestP9_3ADifferenceInEachField(t *testing.T) {
	whole, count := sound(), 0
	leaves(reflect.ValueOf(&whole).Elem(), "", func(path string, v reflect.Value) {
		count++
		before := v.Interface()
		turn(v)
		alike(t, path, whole, sound(), false)
		if got := content.Copy(whole); !equal(got, whole) || content.Same(got, sound()) {
			t.Errorf("%s: the copy is %+v", path, got)
		}
		v.Set(reflect.ValueOf(before))
	})
	alike(t, "turned back", whole, sound(), true)
	if count < 148 {
		t.Errorf("%d fields alone", count)
	}
}

func TestP9_3ADifferenceAtTheEndsOfNumbers(t *testing.T) {
	whole := sound()
	leaves(reflect.ValueOf(&whole).Elem(), "", func(path string, v reflect.Value) {
		if v.Kind() != reflect.Int {
			return
		}
		before := v.Int()
		for _, n := range []int64{api.MinInt, before + 1<<32, before - 1<<8, -before - 1, api.MaxInt} {
			v.SetInt(n)
			alike(t, fmt.Sprint(path, " ", n), whole, sound(), false)
			if !content.Same(content.Copy(whole), whole) {
				t.Errorf("%s %d: the copy is another one", path, n)
			}
		}
		v.SetInt(before)
	})
}

func TestP9_3RowsThatAreShorterOrLonger(t *testing.T) {
	whole, count := sound(), 0
	lists(reflect.ValueOf(&whole).Elem(), "", func(path string, v reflect.Value) {
		count++
		all := v.Interface()
		full := reflect.ValueOf(all)
		for n := range full.Len() {
			v.Set(full.Slice(0, n))
			alike(t, fmt.Sprint(path, " cut to ", n), whole, sound(), false)
			v.Set(full.Slice(full.Len()-n, full.Len()))
			alike(t, fmt.Sprint(path, " without its first ", full.Len()-n), whole, sound(), false)
		}
		v.Set(reflect.Append(full, reflect.Zero(full.Type().Elem())))
		alike(t, path+" and one that is zero", whole, sound(), false)
		if full.Len() > 0 {
			v.Set(reflect.AppendSlice(reflect.MakeSlice(full.Type(), 0, 9), full.Slice(0, full.Len()-1)))
			alike(t, path+" with room", whole, sound(), false)
			v.Set(reflect.Append(full, full.Index(full.Len()-1)))
			alike(t, path+" and its last again", whole, sound(), false)
		}
		v.Set(full)
	})
	alike(t, "turned back", whole, sound(), true)
	if count < 11 {
		t.Errorf("%d lists alone", count)
	}
}

func TestP9_3RowsInAnotherOrder(t *testing.T) {
	turns := map[string]func(c api.Content){
		"abilities": func(c api.Content) { slices.Reverse(c.Abilities) },
		"effects":   func(c api.Content) { slices.Reverse(c.Abilities[0].Effects) },
		"auras":     func(c api.Content) { slices.Reverse(c.Auras) },
		"foes":      func(c api.Content) { slices.Reverse(c.Foes) },
		"lines":     func(c api.Content) { slices.Reverse(c.Foes[0].Script) },
		"prizes":    func(c api.Content) { slices.Reverse(c.Foes[0].Hoard) },
		"walls":     func(c api.Content) { slices.Reverse(c.Map.Wall) },
	}
	for name, reverse := range turns {
		c := sound()
		reverse(c)
		alike(t, name, c, sound(), false)
		if got := content.Copy(c); !equal(got, c) {
			t.Errorf("%s: the copy is %+v", name, got)
		}
	}
}

func TestP9_3WhatChangesPlaces(t *testing.T) {
	c := sound()
	c.Door, c.Lair = c.Lair, c.Door
	alike(t, "Door and Lair", c, sound(), false)
	c = sound()
	c.Map.W, c.Map.H = c.Map.H, c.Map.W
	alike(t, "W and H", c, sound(), false)
	c = sound()
	c.Foes[0].Script, c.Foes[1].Script = c.Foes[1].Script, c.Foes[0].Script
	alike(t, "scripts", c, sound(), false)
	c = sound()
	c.Abilities[0].Effects, c.Abilities[2].Effects = c.Abilities[2].Effects, c.Abilities[0].Effects
	alike(t, "effects of abilities", c, sound(), false)
}

func TestP9_3NilAndEmptyAreTheSame(t *testing.T) {
	whole := sound()
	empty := func(v reflect.Value) reflect.Value { return reflect.MakeSlice(v.Type(), 0, 0) }
	roomy := func(v reflect.Value) reflect.Value { return reflect.MakeSlice(v.Type(), 0, 5) }
	lists(reflect.ValueOf(&whole).Elem(), "", func(path string, v reflect.Value) {
		full := reflect.ValueOf(v.Interface())
		for _, none := range []func(reflect.Value) reflect.Value{empty, roomy} {
			v.Set(none(v))
			alike(t, path+" empty and nil", whole, rebuilt(whole, 0), true)
			alike(t, path+" empty and its copy", whole, content.Copy(whole), true)
			alike(t, path+" empty and not", whole, sound(), false)
		}
		v.SetZero()
		alike(t, path+" nil and its copy", whole, content.Copy(whole), true)
		alike(t, path+" nil and not", whole, sound(), false)
		v.Set(full)
	})
	alike(t, "nothing and empty lists", api.Content{}, api.Content{
		Abilities: []api.Ability{}, Auras: []api.Aura{}, Foes: []api.Foe{}, Map: api.Grid{Wall: []bool{}},
	}, true)
}

func TestP9_3SpareRoomDoesNotMatter(t *testing.T) {
	for name, c := range someContents() {
		alike(t, name, rebuilt(c, 3), c, true)
		alike(t, name+", twice", rebuilt(c, 3), rebuilt(c, 5), true)
		if got := content.Copy(rebuilt(c, 3)); !equal(got, c) {
			t.Errorf("%s: the copy is %+v", name, got)
		}
		first, is := content.Check(c)
		if got, ok := content.Check(rebuilt(c, 3)); got != first || ok != is {
			t.Errorf("%s: %v, %t, with room behind it %v, %t", name, first, is, got, ok)
		}
	}
}

func TestP9_3RandomPairs(t *testing.T) {
	source := rand.New(rand.NewSource(3))
	for range 5000 {
		a, b := someContent(source), someContent(source)
		if got, want := content.Same(a, b), equal(a, b); got != want {
			t.Fatalf("%+v, %+v: %t", a, b, got)
		}
		if got := content.Copy(a); !equal(got, a) {
			t.Fatalf("%+v: the copy is %+v", a, got)
		}
	}
}

// spans answers where the memory of each list of a value lies, with its spare
// room: from which byte on, up to which one.
func spans(v any) map[string][2]uintptr {
	answer := map[string][2]uintptr{}
	at := reflect.New(reflect.TypeOf(v)).Elem()
	at.Set(reflect.ValueOf(v))
	lists(at, "", func(path string, v reflect.Value) {
		if v.Cap() > 0 {
			first := v.Pointer()
			answer[path] = [2]uintptr{first, first + uintptr(v.Cap())*v.Type().Elem().Size()}
		}
	})
	return answer
}

// shares answers a list of each that lie on one another, if there are two.
func shares(a, b map[string][2]uintptr) (string, bool) {
	for _, one := range slices.Sorted(maps.Keys(a)) {
		for _, other := range slices.Sorted(maps.Keys(b)) {
			if a[one][0] < b[other][1] && b[other][0] < a[one][1] {
				return one + " and " + other, true
			}
		}
	}
	return "", false
}

// within answers two lists of one value that lie on one another, if there are
// two.
func within(a map[string][2]uintptr) (string, bool) {
	for _, path := range slices.Sorted(maps.Keys(a)) {
		rest := maps.Clone(a)
		delete(rest, path)
		if where, is := shares(map[string][2]uintptr{path: a[path]}, rest); is {
			return where, true
		}
	}
	return "", false
}

// spoil writes over all that a value is made of, spare room too.
func spoil(v any) {
	at := reflect.New(reflect.TypeOf(v)).Elem()
	at.Set(reflect.ValueOf(v))
	var rooms []reflect.Value
	lists(at, "", func(_ string, v reflect.Value) { rooms = append(rooms, v.Slice(0, v.Cap())) })
	for _, room := range rooms {
		leaves(room, "", func(_ string, v reflect.Value) { turn(v) })
	}
}

// guarded answers content with room behind all its lists, and a check that
// neither has changed.
func guarded(t *testing.T, c api.Content) (api.Content, func(string)) {
	t.Helper()
	roomy := rebuilt(c, 4)
	told := func() string {
		text := fmt.Sprintf("%+v", roomy)
		lists(reflect.ValueOf(&roomy).Elem(), "", func(path string, v reflect.Value) {
			text += fmt.Sprintf("%s %d %+v\n", path, v.Pointer(), v.Slice(0, v.Cap()))
		})
		return text
	}
	before := told()
	return roomy, func(call string) {
		t.Helper()
		if told() != before {
			t.Errorf("%s has turned what was handed in", call)
		}
	}
}

func TestP9_4ArgumentsAreNotChanged(t *testing.T) {
	for name, c := range someContents() {
		a, checkA := guarded(t, c)
		b, checkB := guarded(t, c)
		calls := map[string]func(){
			"Check":   func() { content.Check(a) },
			"Right":   func() { content.Right(a) },
			"Ability": func() { content.Ability(a, 2); content.Ability(a, 7); content.Ability(a, 1) },
			"Aura":    func() { content.Aura(a, 4); content.Aura(a, 7); content.Aura(a, 2) },
			"Foe":     func() { content.Foe(a, 3); content.Foe(a, 7); content.Foe(a, 2) },
			"Copy":    func() { content.Copy(a) },
			"Same":    func() { content.Same(a, b) },
		}
		for call, run := range calls {
			run()
			checkA(call + " of " + name)
			checkB(call + " of " + name)
		}
	}
}

// answers are what the calls that answer lists answer of content.
func answers(c api.Content, id int) map[string]any {
	ability, _ := content.Ability(c, id)
	foe, _ := content.Foe(c, id)
	aura, _ := content.Aura(c, id)
	return map[string]any{"Copy": content.Copy(c), "Ability": ability, "Foe": foe, "Aura": aura}
}

func TestP9_4AnswersAreNewMemory(t *testing.T) {
	for name, c := range someContents() {
		for _, id := range []int{1, 2, 3, 7, 9, 11} {
			c, _ := guarded(t, c)
			first, second := answers(c, id), answers(c, id)
			for call, answer := range first {
				if where, is := shares(spans(answer), spans(c)); is {
					t.Errorf("%s of %s and %d: what was handed in, %s", call, name, id, where)
				}
				for again, other := range second {
					if where, is := shares(spans(answer), spans(other)); is {
						t.Errorf("%s and %s of %s and %d: %s", call, again, name, id, where)
					}
				}
				if where, is := within(spans(answer)); is {
					t.Errorf("%s of %s and %d: two lists share, %s", call, name, id, where)
				}
			}
		}
	}
}

func TestP9_4AnswersMayBeWrittenOver(t *testing.T) {
	for name, c := range someContents() {
		for _, id := range []int{1, 2, 3, 7, 9, 11} {
			c, check := guarded(t, c)
			for call, answer := range answers(c, id) {
				second := answers(c, id)
				before := fmt.Sprintf("%+v", second)
				spoil(answer)
				check("writing over " + call + " of " + name)
				if now := fmt.Sprintf("%+v", second); now != before {
					t.Errorf("writing over %s of %s: the second answer is %s by now", call, name, now)
				}
				if third := fmt.Sprintf("%+v", answers(c, id)); third != before {
					t.Errorf("writing over %s of %s: the third answer is %s", call, name, third)
				}
			}
		}
	}
}

func TestP9_4ArgumentsAreNotKept(t *testing.T) {
	for name, c := range someContents() {
		for _, id := range []int{1, 2, 3, 7, 9, 11} {
			c, _ := guarded(t, c)
			first := answers(c, id)
			before := fmt.Sprintf("%+v", first)
			spoil(c)
			if now := fmt.Sprintf("%+v", first); now != before {
				t.Errorf("writing over %s: the answers are %s by now", name, now)
			}
			got, is := content.Check(c)
			want, ok := plainCheck(c)
			if got != want || is != ok {
				t.Errorf("%s, written over: %v, %t, not %v, %t", name, got, is, want, ok)
			}
		}
	}
}

func TestP9_4AListThatIsThereTwice(t *testing.T) {
	effects := []api.Effect{{Kind: api.EffectHurt, Amount: 1}, {Kind: api.EffectHeal, Amount: 2}}
	lines := []api.Line{{Phase: 1, When: 2, Arg: 3, Do: 3, Value: 5}}
	prizes := []api.Prize{{Item: 1, Weight: 2}, {Item: 3, Weight: 4}}
	c := api.Content{
		Abilities: []api.Ability{{Id: 1, Charges: 1, Effects: effects}, {Id: 2, Charges: 1, Effects: effects[:1]}, {Id: 3, Charges: 1, Effects: effects}},
		Foes:      []api.Foe{{Id: 1, Health: 1, Every: 1, Script: lines, Hoard: prizes}, {Id: 2, Health: 1, Every: 1, Script: lines, Hoard: prizes[1:]}},
		Map:       api.Grid{W: 1, H: 1, Wall: make([]bool, 1)},
	}
	right(t, "lists that are there twice", c)
	made := content.Copy(c)
	if where, is := within(spans(made)); is {
		t.Errorf("two lists of the copy share: %s", where)
	}
	if !equal(made, c) {
		t.Errorf("%+v, not %+v", made, c)
	}
	made.Abilities[0].Effects[0].Amount, made.Foes[0].Hoard[1].Item = 99, 99
	if made.Abilities[1].Effects[0].Amount != 1 || made.Abilities[2].Effects[0].Amount != 1 || made.Foes[1].Hoard[0].Item != 3 {
		t.Errorf("a turn of one row turned another one: %+v", made)
	}
}

// someRight answers content that is right, of rows as they come.
func someRight(source *rand.Rand) api.Content {
	for {
		c := someContent(source)
		c.Foes = append(c.Foes, foes(source.Intn(api.MaxRows-1))...)
		for i := range c.Foes {
			c.Foes[i].Id = 3*i + source.Intn(3) + 1
		}
		if content.Right(c) {
			return c
		}
	}
}

func TestP9_5RightWithoutItsLastFoe(t *testing.T) {
	source := rand.New(rand.NewSource(4))
	for range 1000 {
		for c := someRight(source); len(c.Foes) > 0; {
			c.Foes = c.Foes[:len(c.Foes)-1]
			if got, ok := content.Check(c); got != (api.Flaw{}) || !ok {
				t.Fatalf("%+v: %v", c, got)
			}
		}
	}
	c := bare()
	for c.Foes = foes(api.MaxRows); len(c.Foes) > 0; c.Foes = c.Foes[:len(c.Foes)-1] {
		right(t, fmt.Sprint(len(c.Foes), " foes"), c)
	}
}

func TestP9_5EachOneIsFoundByItsId(t *testing.T) {
	source := rand.New(rand.NewSource(5))
	for range 1000 {
		c := someRight(source)
		for _, one := range c.Abilities {
			if got, ok := content.Ability(c, one.Id); !ok || !reflect.DeepEqual(got, one) {
				t.Fatalf("Ability %d: %+v, %t", one.Id, got, ok)
			}
		}
		for _, one := range c.Auras {
			if got, ok := content.Aura(c, one.Id); !ok || got != one {
				t.Fatalf("Aura %d: %+v, %t", one.Id, got, ok)
			}
		}
		for _, one := range c.Foes {
			if got, ok := content.Foe(c, one.Id); !ok || !reflect.DeepEqual(got, one) {
				t.Fatalf("Foe %d: %+v, %t", one.Id, got, ok)
			}
		}
	}
}

func TestP9_5TheFoeThatIsGoneIsNotFound(t *testing.T) {
	c := sound()
	c.Foes = c.Foes[:1]
	if got, ok := content.Foe(c, 11); ok || !reflect.DeepEqual(got, api.Foe{}) {
		t.Errorf("the foe that is gone: %+v, %t", got, ok)
	}
	if got, ok := content.Foe(c, 3); !ok || !reflect.DeepEqual(got, sound().Foes[0]) {
		t.Errorf("the other one: %+v, %t", got, ok)
	}
}
