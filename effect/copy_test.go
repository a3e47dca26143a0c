package effect_test

import (
	"fmt"
	"slices"
	"testing"

	"barrow/api"
	"barrow/content"
	"barrow/effect"
)

// place is one number of an actor: its name, and where it stands.
type place struct {
	name string
	of   func(x *api.Actor) *int
}

// places are all numbers of someone on whom two auras lie.
func places() []place {
	list := []place{
		{"Unit.Id", func(x *api.Actor) *int { return &x.Unit.Id }}, {"Unit.Kind", func(x *api.Actor) *int { return &x.Unit.Kind }}, {"Unit.Group", func(x *api.Actor) *int { return &x.Unit.Group }},
		{"Unit.Health", func(x *api.Actor) *int { return &x.Unit.Health }}, {"Unit.MaxHealth", func(x *api.Actor) *int { return &x.Unit.MaxHealth }},
		{"Unit.Power", func(x *api.Actor) *int { return &x.Unit.Power }}, {"Unit.MaxPower", func(x *api.Actor) *int { return &x.Unit.MaxPower }},
		{"Unit.At.X", func(x *api.Actor) *int { return &x.Unit.At.X }}, {"Unit.At.Y", func(x *api.Actor) *int { return &x.Unit.At.Y }}, {"Unit.Casting", func(x *api.Actor) *int { return &x.Unit.Casting }},
		{"Casting.Wait", func(x *api.Actor) *int { return &x.Casting.Wait }},
	}
	for name, cast := range map[string]func(x *api.Actor) *api.Cast{"Now": func(x *api.Actor) *api.Cast { return &x.Casting.Now }, "Next": func(x *api.Actor) *api.Cast { return &x.Casting.Next }} {
		list = append(list,
			place{name + ".Ability", func(x *api.Actor) *int { return &cast(x).Ability }}, place{name + ".Target", func(x *api.Actor) *int { return &cast(x).Target }},
			place{name + ".Since", func(x *api.Actor) *int { return &cast(x).Since }}, place{name + ".Until", func(x *api.Actor) *int { return &cast(x).Until }})
	}
	for i := range 2 {
		name := fmt.Sprintf("Auras[%d]", i)
		list = append(list,
			place{name + ".Aura", func(x *api.Actor) *int { return &x.Auras[i].Aura }}, place{name + ".Source", func(x *api.Actor) *int { return &x.Auras[i].Source }},
			place{name + ".Stacks", func(x *api.Actor) *int { return &x.Auras[i].Stacks }}, place{name + ".Until", func(x *api.Actor) *int { return &x.Auras[i].Until }},
			place{name + ".Next", func(x *api.Actor) *int { return &x.Auras[i].Next }}, place{name + ".Left", func(x *api.Actor) *int { return &x.Auras[i].Left }})
	}
	for i, c := range someone().Cools {
		list = append(list, place{fmt.Sprintf("Cools[%d].Ability", i), func(x *api.Actor) *int { return &x.Cools[i].Ability }})
		for j := range c.Back {
			list = append(list, place{fmt.Sprintf("Cools[%d].Back[%d]", i, j), func(x *api.Actor) *int { return &x.Cools[i].Back[j] }})
		}
	}
	return list
}

// fresh is someone with two auras, made anew with each call.
func fresh() api.Actor { return someone(left(thin, 3), left(soft, 2)) }

// turnings are ways of turning one actor into another one that is not alike,
// by more than a number.
func turnings() map[string]func(x *api.Actor) {
	return map[string]func(x *api.Actor){
		"Name":                     func(x *api.Actor) { x.Name = "Ab-8" },
		"a shorter Name":           func(x *api.Actor) { x.Name = "Ab-" },
		"a longer Name":            func(x *api.Actor) { x.Name = "Ab-9\x00" },
		"no Name":                  func(x *api.Actor) { x.Name = "" },
		"a Name of other letters":  func(x *api.Actor) { x.Name = "ab-9" },
		"no Unit":                  func(x *api.Actor) { x.Unit = api.Unit{} },
		"no Casting":               func(x *api.Actor) { x.Casting = api.Casting{} },
		"one aura fewer":           func(x *api.Actor) { x.Auras = x.Auras[:1] },
		"without the first aura":   func(x *api.Actor) { x.Auras = x.Auras[1:] },
		"one aura more":            func(x *api.Actor) { x.Auras = append(x.Auras, lying(root)) },
		"one more that is zero":    func(x *api.Actor) { x.Auras = append(x.Auras, api.Active{}) },
		"the first aura twice":     func(x *api.Actor) { x.Auras = append(x.Auras, x.Auras[0]) },
		"auras turned round":       func(x *api.Actor) { slices.Reverse(x.Auras) },
		"no auras":                 func(x *api.Actor) { x.Auras = nil },
		"empty auras":              func(x *api.Actor) { x.Auras = x.Auras[:0] },
		"one Cool fewer":           func(x *api.Actor) { x.Cools = x.Cools[:2] },
		"without the first Cool":   func(x *api.Actor) { x.Cools = x.Cools[1:] },
		"one Cool more":            func(x *api.Actor) { x.Cools = append(x.Cools, api.Cool{Ability: 9, Back: []int{1}}) },
		"one more Cool of nothing": func(x *api.Actor) { x.Cools = append(x.Cools, api.Cool{}) },
		"Cools turned round":       func(x *api.Actor) { slices.Reverse(x.Cools) },
		"no Cools":                 func(x *api.Actor) { x.Cools = nil },
		"a shorter Back":           func(x *api.Actor) { x.Cools[0].Back = x.Cools[0].Back[:1] },
		"a Back without its first": func(x *api.Actor) { x.Cools[2].Back = x.Cools[2].Back[1:] },
		"a longer Back":            func(x *api.Actor) { x.Cools[1].Back = append(x.Cools[1].Back, 9) },
		"a Back with a 0 more":     func(x *api.Actor) { x.Cools[1].Back = append(x.Cools[1].Back, 0) },
		"a Back turned round":      func(x *api.Actor) { slices.Reverse(x.Cools[2].Back) },
		"no Back":                  func(x *api.Actor) { x.Cools[1].Back = nil },
		"an empty Back":            func(x *api.Actor) { x.Cools[1].Back = []int{} },
		"the Backs of two changed": func(x *api.Actor) { x.Cools[0].Back, x.Cools[1].Back = x.Cools[1].Back, x.Cools[0].Back },
		"nobody":                   func(x *api.Actor) { *x = api.Actor{} },
	}
}

// checkOther holds that both are not alike, whichever comes first.
func checkOther(t *testing.T, name string, a, b api.Actor) {
	t.Helper()
	if effect.Same(a, b) || effect.Same(b, a) {
		t.Errorf("%s: %s and %s are alike", name, told(a), told(b))
	}
}

// checkAlike holds that both are alike, whichever comes first.
func checkAlike(t *testing.T, name string, a, b api.Actor) {
	t.Helper()
	if !effect.Same(a, b) || !effect.Same(b, a) {
		t.Errorf("%s: %s and %s are not alike", name, told(a), told(b))
	}
}

func TestP18_4SameByNumber(t *testing.T) {
	for _, one := range places() {
		for _, by := range []int{1, -1, 1 << 32, least} {
			a, b := fresh(), fresh()
			*one.of(&a) += by
			checkOther(t, one.name, a, b)
			*one.of(&b) += by
			checkAlike(t, one.name, a, b)
		}
		a, b := fresh(), fresh()
		*one.of(&a) = 0
		checkOther(t, one.name+" of 0", a, b)
	}
}

// TestP18_4SameOfTwoNumbers turns two numbers at once, against one another,
// and one in each of both.
func TestP18_4SameOfTwoNumbers(t *testing.T) {
	all := places()
	for i, one := range all {
		for _, other := range all[i+1:] {
			a, b, c := fresh(), fresh(), fresh()
			*one.of(&a)++
			*other.of(&a)--
			checkOther(t, one.name+" and "+other.name, a, b)
			*one.of(&c)++
			checkOther(t, other.name+" alone", a, c)
			*other.of(&b)--
			checkOther(t, one.name+" alone", a, b)
		}
	}
}

func TestP18_4SameByCases(t *testing.T) {
	checkAlike(t, "fresh", fresh(), fresh())
	checkAlike(t, "nobody", api.Actor{}, api.Actor{})
	one := fresh()
	checkAlike(t, "one", one, one)
	for name, turn := range turnings() {
		a, b := fresh(), fresh()
		turn(&a)
		checkOther(t, name, a, b)
		turn(&b)
		checkAlike(t, name, a, b)
	}
	for name, x := range wrongs(lying(soft)) {
		checkAlike(t, name, x, effect.Copy(x))
		checkOther(t, name, x, fresh())
	}
}

// TestP18_4SameEmpty has rows that are nil beside such that are empty.
func TestP18_4SameEmpty(t *testing.T) {
	auras := [][]api.Active{nil, {}, row(lying(soft))[:0]}
	cools := [][]api.Cool{nil, {}, fresh().Cools[:0]}
	for _, a := range auras {
		for _, b := range auras {
			checkAlike(t, "Auras", withAuras(fresh(), a), withAuras(fresh(), b))
			checkAlike(t, "Auras alone", api.Actor{Auras: a}, api.Actor{Auras: b})
			checkOther(t, "Auras", withAuras(fresh(), a), fresh())
		}
	}
	for _, a := range cools {
		for _, b := range cools {
			checkAlike(t, "Cools alone", api.Actor{Cools: a}, api.Actor{Cools: b})
		}
	}
	for _, a := range [][]int{nil, {}, fresh().Cools[0].Back[:0]} {
		for _, b := range [][]int{nil, {}, fresh().Cools[0].Back[:0]} {
			x, y := fresh(), fresh()
			x.Cools[1].Back, y.Cools[1].Back = a, b
			checkAlike(t, "Back", x, y)
			checkOther(t, "Back", x, fresh())
			checkAlike(t, "Back of a copy", effect.Copy(x), y)
		}
	}
}

func TestP18_4CopyIsAlike(t *testing.T) {
	list := []api.Actor{{}, fresh(), someone(), someone(many(40)...), {Auras: []api.Active{}, Cools: []api.Cool{}}, {Cools: []api.Cool{{}, {Back: []int{}}, {Ability: -1, Back: []int{most, least}}}}}
	for _, x := range wrongs(left(thick, -1), lying(nobody)) {
		list = append(list, x)
	}
	for _, turn := range turnings() {
		x := fresh()
		turn(&x)
		list = append(list, x)
	}
	for _, one := range places() {
		x := fresh()
		*one.of(&x) = least
		list = append(list, x)
	}
	for _, x := range list {
		if got := effect.Copy(x); told(got) != told(x) {
			t.Errorf("%s, not %s", told(got), told(x))
		}
	}
}

// strange is what no row here holds.
var strange = api.Active{Aura: 777, Source: 778, Stacks: 779, Until: 780, Next: 781, Left: 782}

// roomy answers the actor in new memory, with spare room behind each of its
// rows.
func roomy(x api.Actor) api.Actor {
	strangeCool := api.Cool{Ability: 777, Back: []int{778, 779}}
	x.Auras = append(slices.Clone(x.Auras), slices.Repeat(row(strange), 20)...)[:len(x.Auras)]
	x.Cools = append(slices.Clone(x.Cools), strangeCool, strangeCool)[:len(x.Cools)]
	for i, c := range x.Cools {
		x.Cools[i].Back = append(slices.Clone(c.Back), 777, 778, 779, 780)[:len(c.Back)]
	}
	return x
}

// whole is all of the actor as text, the spare room of its rows too.
func whole(x api.Actor) string {
	text := told(x) + fmt.Sprint(x.Auras[:cap(x.Auras)])
	for _, c := range x.Cools[:cap(x.Cools)] {
		text += fmt.Sprint(c.Ability, c.Back[:cap(c.Back)])
	}
	return text
}

// fill writes over all that a row has, its spare room too.
func fill[T any](list []T, with T) {
	list = list[:cap(list)]
	for i := range list {
		list[i] = with
	}
}

// spoil writes over all rows of the actor, one after the other, and holds each
// time that those which come later are as they were.
func spoil(t *testing.T, name string, x api.Actor, blows []api.Blow) {
	t.Helper()
	cools, l := fmt.Sprint(x.Cools), fmt.Sprint(blows)
	fill(x.Auras, strange)
	if got := fmt.Sprint(x.Cools); got != cools {
		t.Fatalf("%s: Cools are %s by now, not %s", name, got, cools)
	}
	for i := range x.Cools {
		behind := fmt.Sprint(x.Cools[i+1:])
		fill(x.Cools[i].Back, -777)
		if got := fmt.Sprint(x.Cools[i+1:]); got != behind {
			t.Fatalf("%s: Cools behind %d are %s by now, not %s", name, i, got, behind)
		}
	}
	fill(x.Cools, api.Cool{Ability: -777})
	if got := fmt.Sprint(blows); got != l {
		t.Fatalf("%s: Blows are %s by now, not %s", name, got, l)
	}
	fill(blows, api.Blow{Kind: -777})
}

// grow appends to each row of the actor.
func grow(x api.Actor) {
	_ = append(x.Auras, strange, strange)
	for _, c := range x.Cools {
		_ = append(c.Back, -777, -778)
	}
	_ = append(x.Cools, api.Cool{Ability: -777})
}

// call is one of the calls, at arguments of its own, and what is told of it.
type call struct {
	name  string
	made  func(c api.Content, by, to api.Actor) (api.Actor, []api.Blow)
	plain func(c api.Content, by, to api.Actor) (api.Actor, []api.Blow)
}

func do(e api.Effect, at int) call {
	return call{fmt.Sprintf("Do %+v at %d", e, at),
		func(c api.Content, by, to api.Actor) (api.Actor, []api.Blow) {
			x, b := effect.Do(c, by, to, e, at)
			return x, blows(b)
		},
		func(c api.Content, by, to api.Actor) (api.Actor, []api.Blow) {
			x, b := plainDo(c, by, to, e, at)
			return x, blows(b)
		}}
}

func strike(n int) call {
	return call{fmt.Sprintf("Strike of %d", n),
		func(c api.Content, by, to api.Actor) (api.Actor, []api.Blow) {
			x, b := effect.Strike(c, by, to, n)
			return x, blows(b)
		},
		do(api.Effect{Kind: api.EffectHurt, Amount: n}, 0).plain}
}

func tick(at int) call {
	return call{fmt.Sprintf("Tick at %d", at),
		func(c api.Content, _, to api.Actor) (api.Actor, []api.Blow) { return effect.Tick(c, to, at) },
		func(c api.Content, _, to api.Actor) (api.Actor, []api.Blow) { return plainTick(c, to, at) }}
}

// calls are such that turn something of some, and such that turn nothing.
func calls() []call {
	list := []call{
		{"Copy", func(_ api.Content, _, to api.Actor) (api.Actor, []api.Blow) { return effect.Copy(to), nil }, func(_ api.Content, _, to api.Actor) (api.Actor, []api.Blow) { return to, nil }},
		strike(-1), strike(0), strike(1), strike(5), strike(most), tick(least), tick(9), tick(10), tick(500), tick(most),
	}
	for _, kind := range kinds()[:10] {
		for _, amount := range []int{0, 1, 5, most} {
			list = append(list, do(api.Effect{Kind: kind, Amount: amount, Aura: hurts}, 10))
		}
	}
	return append(list, do(api.Effect{Kind: api.EffectAura, Aura: nobody}, 10), do(api.Effect{Kind: api.EffectAura, Aura: thick}, 10))
}

// targets are actors of each sort: right ones, such as are let alone, full
// rows and none, rows that are nil and such that are empty.
func targets() []api.Actor {
	list := []api.Actor{
		someone(), fresh(), someone(many(16)...), withAuras(someone(), []api.Active{}), withHealth(someone(now(hurts), now(burns), ending(lying(root), 5)), 4), {},
		someone(now(hurts), left(thin, 3), now(heals), lying(soft), ending(lying(root), 10), left(thick, 0), lying(nobody)),
		someone(ending(lying(root), 5)), someone(lying(heals), left(thick, 40)), withHealth(fresh(), 100),
	}
	empty := someone(now(hurts))
	empty.Cools = []api.Cool{{Ability: 1, Back: []int{}}, {Ability: 2}, {Ability: 3, Back: []int{}}}
	list = append(list, empty, withHealth(empty, 0))
	for _, x := range wrongs(now(hurts), left(thin, 3)) {
		list = append(list, x)
	}
	return list
}

// guarded answers the content with spare room behind its auras, and a check
// that nothing of it has changed.
func guarded(t *testing.T, c api.Content) (api.Content, func()) {
	c = content.Copy(c)
	c.Auras = append(c.Auras, api.Aura{Id: 777}, api.Aura{Id: 778})[:len(c.Auras)]
	all := func() string { return fmt.Sprintf("%+v %+v", c, c.Auras[:cap(c.Auras)]) }
	before := all()
	return c, func() {
		t.Helper()
		if got := all(); got != before {
			t.Fatalf("%s became %s", before, got)
		}
	}
}

// TestP18_4NewMemory writes over what one call answered, row by row, and lets
// it grow, and looks at what was handed in and at a second answer.
func TestP18_4NewMemory(t *testing.T) {
	c, checkContent := guarded(t, sound())
	for _, target := range targets() {
		for _, one := range calls() {
			by, to := roomy(source(lying(strong), lying(weak))), roomy(target)
			wholeBy, wholeTo := whole(by), whole(to)
			check := func() {
				t.Helper()
				if whole(by) != wholeBy || whole(to) != wholeTo {
					t.Fatalf("%s: what was handed in became %s and %s", one.name, whole(by), whole(to))
				}
				checkContent()
			}
			want, wantBlows := one.plain(c, by, target)
			same := func(name string, x api.Actor, l []api.Blow) {
				t.Helper()
				if told(x) != told(want) || !slices.Equal(l, wantBlows) {
					t.Fatalf("%s of %s: %s\n%+v is %s, not\n%s\n%+v", one.name, told(target), told(x), l, name, told(want), wantBlows)
				}
			}
			first, firstBlows := one.made(c, by, to)
			second, secondBlows := one.made(c, by, to)
			same("the first answer", first, firstBlows)
			check()
			grow(first)
			check()
			spoil(t, one.name, first, firstBlows)
			check()
			same("the second answer", second, secondBlows)
			spoil(t, one.name, second, secondBlows)
			third, thirdBlows := one.made(c, by, to)
			same("the third answer", third, thirdBlows)
			check()
		}
	}
}

// TestP18_4OfOneActor has one actor as both: it is not turned either.
func TestP18_4OfOneActor(t *testing.T) {
	for _, target := range targets() {
		for _, one := range calls() {
			x := roomy(target)
			before := whole(x)
			got, l := one.made(sound(), x, x)
			want, _ := one.plain(sound(), target, target)
			if told(got) != told(want) || whole(x) != before {
				t.Fatalf("%s: %s, not %s; and %s", one.name, told(got), told(want), whole(x))
			}
			spoil(t, one.name, got, l)
			if whole(x) != before {
				t.Fatalf("%s: what was handed in became %s", one.name, whole(x))
			}
		}
	}
}

// TestP18_4NothingIsKept writes over what was handed in, and looks at what was
// answered, then and by a next call.
func TestP18_4NothingIsKept(t *testing.T) {
	for _, target := range targets() {
		for _, one := range calls() {
			c, by, to := content.Copy(sound()), roomy(source(lying(strong))), roomy(target)
			want, wantBlows := one.plain(sound(), source(lying(strong)), target)
			got, l := one.made(c, by, to)
			spoil(t, one.name, by, nil)
			spoil(t, one.name, to, nil)
			fill(c.Auras, api.Aura{Id: 777})
			if told(got) != told(want) || !slices.Equal(l, wantBlows) {
				t.Fatalf("%s: %s\n%+v by now, not\n%s\n%+v", one.name, told(got), l, told(want), wantBlows)
			}
			again, l := one.made(sound(), source(lying(strong)), target)
			if told(again) != told(want) || !slices.Equal(l, wantBlows) {
				t.Fatalf("%s: %s\n%+v the next time, not\n%s\n%+v", one.name, told(again), l, told(want), wantBlows)
			}
		}
	}
}

// TestP18_4SameTurnsNothing holds that what Same is asked of stays as it is.
func TestP18_4SameTurnsNothing(t *testing.T) {
	for _, a := range targets() {
		for _, b := range targets() {
			x, y := roomy(a), roomy(b)
			wholeX, wholeY := whole(x), whole(y)
			if effect.Same(x, y) != (told(a) == told(b)) || whole(x) != wholeX || whole(y) != wholeY {
				t.Fatalf("%s and %s: %v", told(a), told(b), effect.Same(x, y))
			}
		}
	}
}
