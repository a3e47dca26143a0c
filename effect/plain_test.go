package effect_test

import (
	"fmt"
	"math/big"
	"math/rand"
	"slices"
	"testing"

	"barrow/api"
	"barrow/aura"
	"barrow/body"
	"barrow/effect"
)

const (
	most  = api.MaxInt
	least = api.MinInt
)

// The auras of sound, by what they do.
const (
	hurts, heals, strong, weak = 1, 2, 3, 4 // strong and weak are of AuraOut
	soft, hard, thin, thick    = 5, 6, 7, 8 // soft and hard are of AuraIn, thin and thick are shields
	root, burns, idle, nobody  = 9, 12, 13, 999
)

// tile is a map of one tile.
func tile() api.Grid { return api.Grid{W: 1, H: 1, Wall: make([]bool, 1)} }

// sound answers content that is right, with auras of each kind. Sums of 50,
// -20, 30 and -50 make it easy to tell which of them were counted.
func sound() api.Content {
	return api.Content{
		Map: tile(),
		Auras: []api.Aura{
			{Id: hurts, Kind: api.AuraHurt, Ticks: 5, Every: 2, Stacks: 3, Amount: 4, Harm: true},
			{Id: heals, Kind: api.AuraHeal, Ticks: 8, Every: 3, Stacks: 3, Amount: 5},
			{Id: strong, Kind: api.AuraOut, Ticks: 7, Stacks: 3, Amount: 50},
			{Id: weak, Kind: api.AuraOut, Ticks: 7, Stacks: 5, Amount: -20, Harm: true},
			{Id: soft, Kind: api.AuraIn, Ticks: 6, Stacks: 3, Amount: 30, Harm: true},
			{Id: hard, Kind: api.AuraIn, Ticks: 6, Stacks: 4, Amount: -50},
			{Id: thin, Kind: api.AuraShield, Ticks: 9, Stacks: 2, Amount: 3},
			{Id: thick, Kind: api.AuraShield, Ticks: 9, Stacks: 5, Amount: 40},
			{Id: root, Kind: api.AuraRoot, Ticks: 4, Stacks: 1, Harm: true},
			{Id: burns, Kind: api.AuraHurt, Ticks: 30, Every: 1, Stacks: api.MaxStacks, Amount: 7, Harm: true},
			{Id: idle, Kind: api.AuraHurt, Ticks: 30, Every: 1, Stacks: 2},
		},
		Abilities: []api.Ability{{Id: 3, Charges: 1, Effects: []api.Effect{{Kind: api.EffectAura, Aura: thick}}}},
		Foes:      []api.Foe{{Id: 5, Health: 9, Every: 1, Hoard: []api.Prize{{Item: 1, Weight: 1}}, Script: []api.Line{{Phase: 1, When: api.WhenEvery, Arg: 1, Do: api.DoCast, Value: 3}}}},
	}
}

// The auras of odd that are at the ends of numbers.
const (
	outMost, outLeast, outHalf, inMost, inLeast, inHalf = 30, 31, 32, 33, 34, 35
	hurtMost, hurtLeast, healMost, healLeast, healHalf  = 40, 41, 42, 43, 44
	shieldTicks, rootTicks, noneTicks, outTicks, twice  = 50, 51, 52, 53, 60
)

// odd answers content that is not right: numbers at their ends, auras that
// tick and may not, two of one Id, and no map.
func odd() api.Content {
	return api.Content{Auras: []api.Aura{
		{Id: outMost, Kind: api.AuraOut, Stacks: 2, Ticks: 5, Amount: most},
		{Id: outLeast, Kind: api.AuraOut, Stacks: 2, Ticks: 5, Amount: least},
		{Id: outHalf, Kind: api.AuraOut, Stacks: 2, Ticks: 5, Amount: 1 << 62},
		{Id: inMost, Kind: api.AuraIn, Stacks: 2, Ticks: 5, Amount: most},
		{Id: inLeast, Kind: api.AuraIn, Stacks: 2, Ticks: 5, Amount: least},
		{Id: inHalf, Kind: api.AuraIn, Stacks: 2, Ticks: 5, Amount: 1 << 62},
		{Id: hurtMost, Kind: api.AuraHurt, Stacks: most, Ticks: most, Every: most, Amount: most},
		{Id: hurtLeast, Kind: api.AuraHurt, Stacks: 2, Ticks: 5, Every: 1, Amount: least},
		{Id: healMost, Kind: api.AuraHeal, Stacks: 2, Ticks: 5, Every: 1, Amount: most},
		{Id: healLeast, Kind: api.AuraHeal, Stacks: 2, Ticks: 5, Every: 1, Amount: least},
		{Id: healHalf, Kind: api.AuraHeal, Stacks: 2, Ticks: 5, Every: 1, Amount: 1 << 62},
		{Id: shieldTicks, Kind: api.AuraShield, Stacks: 2, Ticks: 5, Every: 2, Amount: 6, Harm: true},
		{Id: rootTicks, Kind: api.AuraRoot, Stacks: 2, Ticks: 5, Every: 2, Amount: 6},
		{Id: noneTicks, Kind: 0, Stacks: 2, Ticks: 5, Every: 2, Amount: 6},
		{Id: outTicks, Kind: api.AuraOut, Stacks: 2, Ticks: 5, Every: 2, Amount: 6},
		{Id: twice, Kind: api.AuraHurt, Stacks: 2, Ticks: 5, Every: 2, Amount: 6},
		{Id: twice, Kind: api.AuraHeal, Stacks: 2, Ticks: 5, Every: 3, Amount: 8},
	}}
}

// lying is one of that aura, from source 70 on, that lasts and does not tick
// for long.
func lying(id int) api.Active {
	return api.Active{Aura: id, Source: 70, Stacks: 1, Until: 900, Next: 900}
}

// stacked answers the one with so many stacks.
func stacked(a api.Active, stacks int) api.Active {
	a.Stacks = stacks
	return a
}

// from answers the one from another source.
func from(a api.Active, source int) api.Active {
	a.Source = source
	return a
}

// left is a shield that takes away so much.
func left(id, much int) api.Active {
	a := lying(id)
	a.Left = much
	return a
}

// due answers the one that ticks then.
func due(a api.Active, next int) api.Active {
	a.Next = next
	return a
}

// ending answers the one that ends then.
func ending(a api.Active, until int) api.Active {
	a.Until = until
	return a
}

// row spells a row short.
func row(l ...api.Active) []api.Active { return l }

// someone is a right actor on whom those auras lie. None of its numbers is
// zero, nor as another one beside it.
func someone(auras ...api.Active) api.Actor {
	return api.Actor{
		Unit:  api.Unit{Id: 7, Kind: api.UnitFoe, Group: 3, Health: 50, MaxHealth: 100, Power: 4, MaxPower: 9, At: api.Pos{X: 5, Y: 6}, Casting: 11},
		Name:  "Ab-9",
		Auras: auras,
		Cools: []api.Cool{{Ability: 2, Back: []int{3, 8}}, {Ability: 4, Back: []int{5}}, {Ability: 6, Back: []int{1, 2, 6}}},
		Casting: api.Casting{
			Now:  api.Cast{Ability: 11, Target: 1, Since: 2, Until: 9},
			Next: api.Cast{Ability: 12, Target: 3, Since: 9, Until: 14},
			Wait: 5,
		},
	}
}

// source is whom effects come from, and the auras that lie on it.
func source(auras ...api.Active) api.Actor {
	x := someone(auras...)
	x.Unit.Id, x.Unit.Kind, x.Name = 70, api.UnitHero, "source"
	return x
}

// withHealth answers the actor with that health; a dead one casts nothing.
func withHealth(x api.Actor, health int) api.Actor {
	x.Unit.Health = health
	if health == 0 {
		x.Unit.Casting = 0
	}
	return x
}

// withAuras answers the actor with that row in the place of its own.
func withAuras(x api.Actor, l []api.Active) api.Actor {
	x.Auras = l
	return x
}

// wrongs are right but for one number of their unit each, and dead ones: all
// are let alone. (A MaxHealth or a MaxPower that is too small makes another
// number wrong, too.)
func wrongs(auras ...api.Active) map[string]api.Actor {
	list := map[string]api.Actor{}
	add := func(name string, place func(u *api.Unit) *int, numbers ...int) {
		for _, n := range numbers {
			x := someone(auras...)
			*place(&x.Unit) = n
			list[fmt.Sprintf("%s %d", name, n)] = x
		}
	}
	add("Id", func(u *api.Unit) *int { return &u.Id }, 0, -1, least)
	add("Kind", func(u *api.Unit) *int { return &u.Kind }, 0, -1, 3, 1<<32+1, most, least)
	add("Group", func(u *api.Unit) *int { return &u.Group }, -1, 9, most, least)
	add("MaxHealth", func(u *api.Unit) *int { return &u.MaxHealth }, 0, -1, 49, api.MaxAmount+1, most, least)
	add("Health", func(u *api.Unit) *int { return &u.Health }, -1, 101, most, least)
	add("MaxPower", func(u *api.Unit) *int { return &u.MaxPower }, -1, 3, api.MaxAmount+1, most, least)
	add("Power", func(u *api.Unit) *int { return &u.Power }, -1, 10, most, least)
	add("Casting", func(u *api.Unit) *int { return &u.Casting }, -1, least)
	add("dead, and casting: Health", func(u *api.Unit) *int { return &u.Health }, 0)
	list["dead"] = withHealth(someone(auras...), 0)
	list["nobody"] = withAuras(api.Actor{}, auras)
	return list
}

// told is all of the actor as text, in which an empty row and none are alike.
func told(x api.Actor) string { return fmt.Sprintf("%+v", x) }

// held is the number, at the end of numbers that it is beyond, if it is.
func held(n *big.Int) int {
	switch {
	case n.Cmp(big.NewInt(most)) > 0:
		return most
	case n.Cmp(big.NewInt(least)) < 0:
		return least
	}
	return int(n.Int64())
}

func plainAdd(a, b int) int {
	return held(new(big.Int).Add(big.NewInt(int64(a)), big.NewInt(int64(b))))
}

func plainMul(a, b int) int {
	return held(new(big.Int).Mul(big.NewInt(int64(a)), big.NewInt(int64(b))))
}

// plainMore is n and part of a hundred of it more, as layer 14 has it.
func plainMore(n, part int) int {
	clamped := func(n int) int { return max(-api.MaxPart, min(n, api.MaxPart)) }
	return max(0, plainMul(clamped(n), clamped(plainAdd(100, part)))/100)
}

// plainOf is the first aura of that Id; one that is zero, if there is none.
func plainOf(c api.Content, id int) api.Aura {
	for _, of := range c.Auras {
		if of.Id == id {
			return of
		}
	}
	return api.Aura{}
}

// plainSum is of kinds from 1 on.
func plainSum(c api.Content, l []api.Active, kind int) int {
	sum := 0
	for _, a := range l {
		if of := plainOf(c, a.Aura); of.Kind == kind {
			sum = plainAdd(sum, plainMul(of.Amount, a.Stacks))
		}
	}
	return sum
}

// plainBlow is a blow of what n came to by parts.
func plainBlow(c api.Content, to api.Actor, n int) (api.Actor, api.Blow) {
	b := api.Blow{Kind: api.EffectHurt, Amount: n}
	rest := n
	var on []api.Active
	for _, a := range to.Auras {
		if n > 0 && plainOf(c, a.Aura).Kind == api.AuraShield {
			takes := max(0, min(a.Left, rest))
			rest, a.Left, b.Kept = rest-takes, a.Left-takes, b.Kept+takes
			if a.Left <= 0 {
				continue
			}
		}
		on = append(on, a)
	}
	b.Done = min(rest, to.Unit.Health)
	return withHealth(withAuras(to, on), to.Unit.Health-b.Done), b
}

// plainCure is a cure of what n came to by parts.
func plainCure(to api.Actor, n int) (api.Actor, api.Blow) {
	much := max(0, min(n, to.Unit.MaxHealth-to.Unit.Health))
	to.Unit.Health += much
	return to, api.Blow{Kind: api.EffectHeal, Amount: n, Done: much}
}

func plainLives(x api.Actor) bool { return body.Right(x.Unit) && x.Unit.Health != 0 }

// plainDo tells by cases what an effect comes to: the row of an actor by the
// calls of layer 15, as the promise has it, all else by plain numbers.
func plainDo(c api.Content, by, to api.Actor, e api.Effect, now int) (api.Actor, api.Blow) {
	b := api.Blow{Kind: e.Kind}
	if !plainLives(to) {
		return to, b
	}
	out, in := plainSum(c, by.Auras, api.AuraOut), plainSum(c, to.Auras, api.AuraIn)
	switch e.Kind {
	case 1:
		return plainBlow(c, to, plainMore(plainMore(e.Amount, out), in))
	case 2:
		return plainCure(to, plainMore(e.Amount, out))
	case 3:
		b.Amount, b.Done = e.Amount, max(0, min(e.Amount, to.Unit.MaxPower-to.Unit.Power))
		to.Unit.Power += b.Done
	case 4:
		b.Aura = e.Aura
		if l, err := aura.Apply(c, to.Auras, e.Aura, by.Unit.Id, now); err == 0 {
			b.Done, to.Auras = 1, l
		}
	case 6:
		l, gone := aura.Dispel(c, to.Auras, e.Amount)
		b.Amount, b.Done, to.Auras = e.Amount, len(gone), l
	default:
		b.Amount = e.Amount
	}
	return to, b
}

func plainTick(c api.Content, to api.Actor, now int) (api.Actor, []api.Blow) {
	if !plainLives(to) {
		return to, nil
	}
	var blows []api.Blow
	turned, came := aura.Tick(c, to.Auras, now)
	to.Auras = turned
	for _, a := range came {
		var b api.Blow
		of := plainOf(c, a.Aura)
		n := plainMul(of.Amount, a.Stacks)
		switch {
		case to.Unit.Health == 0:
			continue
		case of.Kind == api.AuraHurt:
			to, b = plainBlow(c, to, plainMore(n, plainSum(c, to.Auras, api.AuraIn)))
		case of.Kind == api.AuraHeal:
			to, b = plainCure(to, n)
		default:
			continue
		}
		b.Aura = a.Aura
		blows = append(blows, b)
	}
	to.Auras, _ = aura.Expire(to.Auras, now)
	return to, blows
}

// numbers are small ones, the ends of numbers, the ends of parts, and some
// that would run over into small ones.
func numbers() []int {
	return []int{0, 1, -1, 2, 3, 5, 10, -10, 49, 50, 51, 99, 100, 101, 1000, -1000, api.MaxAmount, api.MaxAmount + 1, api.MaxPart - 1, api.MaxPart, api.MaxPart + 1, -api.MaxPart, -api.MaxPart - 1, 1 << 32, 1<<32 + 5, -1 << 32, 1 << 62, -1 << 62, most, most - 1, least, least + 1}
}

// kinds are those of effects, and some that are none.
func kinds() []int {
	return []int{1, 2, 3, 4, 5, 6, 7, 0, -1, 8, 9, 1<<32 + 1, most, least}
}

// luck draws what is often near an end.
type luck struct{ *rand.Rand }

func newLuck(seed int64) luck { return luck{rand.New(rand.NewSource(seed))} }

// number is mostly a small one.
func (l luck) number(most int) int {
	if l.Intn(12) == 0 {
		return numbers()[l.Intn(len(numbers()))]
	}
	return l.Intn(most) - 2
}

// auras are some of the content's, mostly, in any state.
func (l luck) auras(c api.Content) []api.Active {
	list := make([]api.Active, l.Intn(7))
	if l.Intn(15) == 0 {
		list = make([]api.Active, 14+l.Intn(4))
	}
	for i := range list {
		of := c.Auras[l.Intn(len(c.Auras))]
		list[i] = api.Active{Aura: of.Id, Source: 69 + l.Intn(3), Stacks: l.number(6), Until: l.number(20), Next: l.number(20), Left: l.number(12)}
		if l.Intn(20) == 0 {
			list[i].Aura = nobody
		}
	}
	return list
}

// actor is some one, mostly alive and right.
func (l luck) actor(c api.Content) api.Actor {
	x := someone(l.auras(c)...)
	x.Unit.Id, x.Unit.Health, x.Unit.Power = 69+l.Intn(3), 1+l.Intn(100), l.Intn(10)
	switch l.Intn(8) {
	case 0:
		x = withHealth(x, 0)
	case 1:
		x.Unit.Health = 1 + l.Intn(5)
	case 2:
		x.Unit.Health = 100 - l.Intn(3)
	}
	if l.Intn(12) == 0 {
		for _, wrong := range []func(){func() { x.Unit.Health = 101 }, func() { x.Unit.Casting = -1 }, func() { x.Unit.Kind = 3 }, func() { x.Unit.Power = 10 }} {
			if l.Intn(3) == 0 {
				wrong()
			}
		}
	}
	return x
}

// effect is some one, of any kind.
func (l luck) effect(c api.Content) api.Effect {
	e := api.Effect{Kind: kinds()[l.Intn(len(kinds()))], Amount: l.number(80), Aura: nobody}
	if l.Intn(3) > 0 {
		e.Kind = 1 + l.Intn(7)
	}
	if l.Intn(9) > 0 {
		e.Aura = c.Auras[l.Intn(len(c.Auras))].Id
	}
	return e
}

// checkDone holds Do to what it must answer, and to the plain telling.
func checkDone(t *testing.T, name string, c api.Content, by, to api.Actor, e api.Effect, now int, want api.Actor, wantBlow api.Blow) {
	t.Helper()
	got, b := effect.Do(c, by, to, e, now)
	if told(got) != told(want) || b != wantBlow {
		t.Errorf("%s: %+v at %d\nof %s\non %s:\n%s\n%+v, not\n%s\n%+v", name, e, now, told(by), told(to), told(got), b, told(want), wantBlow)
	}
	plain, plainBlow := plainDo(c, by, to, e, now)
	if told(plain) != told(want) || plainBlow != wantBlow {
		t.Errorf("%s: not as told: %s\n%+v", name, told(plain), plainBlow)
	}
}

// checkTicked holds Tick likewise.
func checkTicked(t *testing.T, name string, c api.Content, to api.Actor, now int, want api.Actor, wantBlows ...api.Blow) {
	t.Helper()
	got, blows := effect.Tick(c, to, now)
	if told(got) != told(want) || !slices.Equal(blows, wantBlows) {
		t.Errorf("%s: at %d of %s:\n%s\n%+v, not\n%s\n%+v", name, now, told(to), told(got), blows, told(want), wantBlows)
	}
	plain, plainBlows := plainTick(c, to, now)
	if told(plain) != told(want) || !slices.Equal(plainBlows, wantBlows) {
		t.Errorf("%s: not as told: %s\n%+v", name, told(plain), plainBlows)
	}
}
