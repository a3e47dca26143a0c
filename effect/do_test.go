package effect_test

import (
	"fmt"
	"testing"

	"barrow/api"
	"barrow/effect"
)

// TestP18_2DoLetsAlone has those that are not right, and dead ones, whom each
// of the effects would turn: the Blow has its Kind, whatever that is.
func TestP18_2DoLetsAlone(t *testing.T) {
	l := row(left(thin, 3), lying(soft), due(lying(burns), 5), from(lying(heals), 2))
	for name, to := range wrongs(l...) {
		for _, kind := range kinds() {
			for _, amount := range []int{10, 1, 0, -1, most, least} {
				for _, id := range []int{0, heals, nobody} {
					e := api.Effect{Kind: kind, Amount: amount, Aura: id}
					for _, by := range []api.Actor{source(lying(strong)), to} {
						checkDone(t, name, sound(), by, to, e, 10, to, api.Blow{Kind: kind})
					}
				}
			}
		}
	}
}

// TestP18_2HurtIsAStrike holds that the Aura of the effect, and the time, do
// not matter; what a strike comes to is held elsewhere.
func TestP18_2HurtIsAStrike(t *testing.T) {
	l := newLuck(11)
	for range 4000 {
		by, to, n := l.actor(sound()), l.actor(sound()), l.number(80)
		want, wantBlow := effect.Strike(sound(), by, to, n)
		for _, id := range []int{0, thick, nobody, most} {
			got, b := effect.Do(sound(), by, to, api.Effect{Kind: api.EffectHurt, Amount: n, Aura: id}, l.number(30))
			if told(got) != told(want) || b != wantBlow {
				t.Fatalf("%d on %s: %s, %+v, not %s, %+v", n, told(to), told(got), b, told(want), wantBlow)
			}
		}
	}
}

func TestP18_2DoHurt(t *testing.T) {
	to := someone(left(thin, 3), lying(soft))
	want := withHealth(withAuras(to, to.Auras[1:]), 14)
	checkDone(t, "hurt", sound(), source(lying(strong)), to, api.Effect{Kind: api.EffectHurt, Amount: 20}, 7, want, api.Blow{Kind: api.EffectHurt, Amount: 39, Kept: 3, Done: 36})
	dead := withHealth(withAuras(to, to.Auras[1:]), 0)
	checkDone(t, "dead by it", sound(), source(), to, api.Effect{Kind: api.EffectHurt, Amount: 100}, 7, dead, api.Blow{Kind: api.EffectHurt, Amount: 130, Kept: 3, Done: 50})
	if dead.Unit.Casting != 0 || to.Unit.Casting == 0 || dead.Casting != to.Casting {
		t.Error("a dead unit casts nothing; what the actor had begun is not the unit's")
	}
}

func TestP18_2DoHeal(t *testing.T) {
	c := sound()
	for _, x := range []struct {
		name                    string
		out                     []api.Active
		health, n, amount, done int
	}{
		{"some", nil, 50, 10, 10, 10}, {"1", nil, 50, 1, 1, 1}, {"0", nil, 50, 0, 0, 0}, {"-1", nil, 50, -1, 0, 0}, {"-1000", nil, 50, -1000, 0, 0}, {"least", nil, 50, least, 0, 0},
		{"up to MaxHealth", nil, 50, 50, 50, 50}, {"up to one below it", nil, 50, 49, 49, 49}, {"one beyond it", nil, 50, 51, 51, 50}, {"far beyond it", nil, 50, api.MaxPart, api.MaxPart, 50}, {"most", nil, 50, most, api.MaxPart, 50}, {"one that would be cut", nil, 50, 1<<32 + 5, api.MaxPart, 50},
		{"nothing is lacking", nil, 100, 10, 10, 0}, {"1 is lacking", nil, 99, 10, 10, 1}, {"almost dead", nil, 1, 10, 10, 10}, {"almost dead, all", nil, 1, 99, 99, 99}, {"almost dead, beyond", nil, 1, 100, 100, 99},
		{"more", row(lying(strong)), 50, 10, 15, 15}, {"less", row(lying(weak)), 50, 10, 8, 8}, {"several", row(lying(strong), from(lying(strong), 2), stacked(lying(weak), 2)), 50, 10, 16, 16}, {"stacks", row(stacked(lying(strong), 3)), 50, 10, 25, 25}, {"rounded", row(lying(strong)), 50, 3, 4, 4}, {"rounded away", row(lying(weak)), 50, 1, 0, 0},
		{"more, up to MaxHealth", row(lying(strong)), 85, 10, 15, 15}, {"more, beyond it", row(lying(strong)), 86, 10, 15, 14}, {"more of most", row(lying(strong)), 50, most, 3221225470, 50},
		{"-100", row(stacked(lying(weak), 5)), 50, 10, 0, 0}, {"-120", row(stacked(lying(weak), 6)), 50, 10, 0, 0}, {"-120 of n below 0", row(stacked(lying(weak), 6)), 50, -10, 2, 2}, {"-100 of n below 0", row(stacked(lying(weak), 5)), 50, -10, 0, 0}, {"more of n below 0", row(lying(strong)), 50, -10, 0, 0},
		{"from's AuraIn", row(lying(soft), lying(hard)), 50, 10, 10, 10}, {"from's others", row(lying(heals), left(thick, 40), lying(nobody)), 50, 10, 10, 10},
	} {
		// What lies on to must not matter, nor be turned.
		for _, l := range [][]api.Active{nil, row(lying(soft)), row(lying(hard)), row(lying(strong)), row(left(thin, 3), due(lying(heals), 5), ending(lying(root), 5), left(thick, 0))} {
			to := withHealth(someone(l...), x.health)
			e := api.Effect{Kind: api.EffectHeal, Amount: x.n, Aura: thick}
			checkDone(t, x.name, c, source(x.out...), to, e, 10, withHealth(to, x.health+x.done), api.Blow{Kind: api.EffectHeal, Amount: x.amount, Done: x.done})
		}
	}
	for out, amount := range map[int]int{outMost: 214748364, outHalf: 214748364, outLeast: 0} {
		e := api.Effect{Kind: api.EffectHeal, Amount: 10}
		checkDone(t, "at the ends", odd(), source(lying(out), stacked(from(lying(out), 2), 2)), someone(lying(inLeast)), e, 10, withHealth(someone(lying(inLeast)), min(100, 50+amount)), api.Blow{Kind: api.EffectHeal, Amount: amount, Done: min(50, amount)})
	}
}

func TestP18_2DoPower(t *testing.T) {
	for _, x := range []struct{ power, n, done int }{
		{4, 3, 3}, {4, 1, 1}, {4, 0, 0}, {4, -1, 0}, {4, -4, 0}, {4, -1000, 0}, {4, least, 0}, {4, least + 1, 0},
		{4, 4, 4}, {4, 5, 5}, {4, 6, 5}, {4, 1000, 5}, {4, api.MaxPart + 1, 5}, {4, 1<<32 + 1, 5}, {4, most, 5},
		{9, 1, 0}, {9, most, 0}, {9, -1, 0}, {0, 9, 9}, {0, 8, 8}, {0, 10, 9}, {0, 0, 0}, {8, 1, 1}, {8, 2, 1},
	} {
		for _, l := range [][]api.Active{nil, row(lying(strong), lying(soft)), row(lying(weak), lying(hard), left(thin, 3), left(thick, 0))} {
			to := someone(l...)
			to.Unit.Power = x.power
			want := to
			want.Unit.Power += x.done
			e := api.Effect{Kind: api.EffectPower, Amount: x.n, Aura: thick}
			checkDone(t, fmt.Sprintf("%+v", x), sound(), source(l...), to, e, 10, want, api.Blow{Kind: api.EffectPower, Amount: x.n, Done: x.done})
		}
	}
	none := someone()
	none.Unit.Power, none.Unit.MaxPower = 0, 0
	checkDone(t, "no power", sound(), source(), none, api.Effect{Kind: api.EffectPower, Amount: 5}, 10, none, api.Blow{Kind: api.EffectPower, Amount: 5})
}

// many answers a row of n, each from a source of its own.
func many(n int) []api.Active {
	var l []api.Active
	for i := range n {
		l = append(l, from(lying(burns), 1000+i))
	}
	return l
}

func TestP18_2DoAura(t *testing.T) {
	made := func(id, stacks, until, next, much int) api.Active {
		return api.Active{Aura: id, Source: 70, Stacks: stacks, Until: until, Next: next, Left: much}
	}
	lies := made(hurts, 1, 12, 9, 0)
	a, b := from(lying(heals), 2), from(lying(hurts), 2)
	for _, x := range []struct {
		name string
		l    []api.Active
		id   int
		now  int
		want []api.Active
	}{
		{"new", nil, hurts, 10, row(made(hurts, 1, 15, 12, 0))}, {"new, of another kind", nil, heals, 10, row(made(heals, 1, 18, 13, 0))}, {"new, a shield", nil, thick, 10, row(made(thick, 1, 19, 0, 40))}, {"new, a root", nil, root, 10, row(made(root, 1, 14, 0, 0))}, {"new, of AuraOut", nil, strong, 10, row(made(strong, 1, 17, 0, 0))},
		{"new, behind others", row(a, b), hurts, 10, row(a, b, made(hurts, 1, 15, 12, 0))}, {"new, by another source than that one", row(b), hurts, 10, row(b, made(hurts, 1, 15, 12, 0))},
		{"again", row(lies), hurts, 11, row(made(hurts, 2, 16, 9, 0))}, {"again, among others", row(a, lies, b), hurts, 11, row(a, made(hurts, 2, 16, 9, 0), b)}, {"again, at its stacks", row(stacked(lies, 3)), hurts, 11, row(made(hurts, 3, 16, 9, 0))}, {"again, a shield", row(left(thick, 2)), thick, 11, row(made(thick, 2, 20, 900, 80))},
		{"one fewer than the most", many(15), hurts, 10, append(many(15), made(hurts, 1, 15, 12, 0))}, {"again in a full row", append(many(15), lies), hurts, 10, append(many(15), made(hurts, 2, 15, 9, 0))}, {"again in a row beyond the most", append(many(17), lies), hurts, 10, append(many(17), made(hurts, 2, 15, 9, 0))},
		{"at 0", nil, hurts, 0, row(made(hurts, 1, 5, 2, 0))}, {"below 0", nil, hurts, -9, row(made(hurts, 1, -4, -7, 0))}, {"at most", nil, hurts, most, row(made(hurts, 1, most, most, 0))}, {"just ahead of most", nil, hurts, most - 4, row(made(hurts, 1, most, most-2, 0))}, {"at least", nil, hurts, least, row(made(hurts, 1, least+5, least+2, 0))},
	} {
		for _, amount := range []int{0, 1, 40, -3, most} {
			to, e := someone(x.l...), api.Effect{Kind: api.EffectAura, Amount: amount, Aura: x.id}
			checkDone(t, x.name, sound(), source(lying(strong)), to, e, x.now, withAuras(to, x.want), api.Blow{Kind: api.EffectAura, Aura: x.id, Done: 1})
		}
	}
	for _, id := range []int{0, -1, 1, most, least} {
		by := source()
		by.Unit.Id = id
		to, e := someone(lying(hurts)), api.Effect{Kind: api.EffectAura, Aura: hurts}
		want := withAuras(to, row(lying(hurts), api.Active{Aura: hurts, Source: id, Stacks: 1, Until: 15, Next: 12}))
		checkDone(t, "from anyone", sound(), by, to, e, 10, want, api.Blow{Kind: api.EffectAura, Aura: hurts, Done: 1})
	}
	self := someone(from(lying(hurts), 7))
	checkDone(t, "on oneself", sound(), self, self, api.Effect{Kind: api.EffectAura, Aura: hurts}, 10, withAuras(self, row(api.Active{Aura: hurts, Source: 7, Stacks: 2, Until: 15, Next: 900})), api.Blow{Kind: api.EffectAura, Aura: hurts, Done: 1})
}

// TestP18_2DoAuraRefused has auras that content does not have, and rows that
// are full: the Blow names the aura all the same.
func TestP18_2DoAuraRefused(t *testing.T) {
	short := row(from(lying(heals), 2), lying(nobody), left(thick, 0), ending(lying(root), 5))
	for _, id := range []int{nobody, 0, -1, 10, 1<<32 + hurts, most, least} {
		for _, l := range [][]api.Active{nil, short, many(16)} {
			to := someone(l...)
			checkDone(t, "no aura", sound(), source(), to, api.Effect{Kind: api.EffectAura, Amount: 3, Aura: id}, 10, to, api.Blow{Kind: api.EffectAura, Aura: id})
			checkDone(t, "no aura of no content", api.Content{}, source(), to, api.Effect{Kind: api.EffectAura, Aura: id}, 10, to, api.Blow{Kind: api.EffectAura, Aura: id})
		}
	}
	for _, n := range []int{16, 17, 40} {
		for _, id := range []int{hurts, burns, thick, root} {
			to := someone(many(n)...)
			checkDone(t, "full", sound(), source(), to, api.Effect{Kind: api.EffectAura, Amount: 3, Aura: id}, 10, to, api.Blow{Kind: api.EffectAura, Aura: id})
		}
	}
}

func TestP18_2DoDispel(t *testing.T) {
	h, k, s, r, w, b := lying(hurts), lying(heals), left(thin, 3), lying(root), lying(soft), lying(burns)
	mixed := row(k, h, s, r, lying(nobody), w, left(thick, 0), b)
	rest := row(k, s, lying(nobody), left(thick, 0))
	for _, x := range []struct {
		name string
		l    []api.Active
		n    int
		want []api.Active
	}{
		{"none of nothing", nil, 3, nil}, {"none that harms", rest, 3, rest}, {"none that harms, most", rest, most, rest}, {"of 0", mixed, 0, mixed}, {"of -1", mixed, -1, mixed}, {"of least", mixed, least, mixed}, {"of one that harms, 0", row(h), 0, row(h)},
		{"1", mixed, 1, row(k, s, r, lying(nobody), w, left(thick, 0), b)}, {"2", mixed, 2, row(k, s, lying(nobody), w, left(thick, 0), b)}, {"3", mixed, 3, row(k, s, lying(nobody), left(thick, 0), b)}, {"just all", mixed, 4, rest}, {"one more", mixed, 5, rest}, {"many more", mixed, 1000, rest}, {"most", mixed, most, rest}, {"1<<32 and 1", mixed, 1<<32 + 1, rest},
		{"one alone", row(h), 1, nil}, {"all harm", row(h, r, w, b), 9, nil}, {"an aura twice", row(h, from(h, 2)), 1, row(from(h, 2))}, {"stacks go at once", row(stacked(h, 3), k), 1, row(k)},
	} {
		to := someone(x.l...)
		for _, by := range []api.Actor{source(), source(lying(strong), lying(weak))} {
			e := api.Effect{Kind: api.EffectDispel, Amount: x.n, Aura: thick}
			checkDone(t, x.name, sound(), by, to, e, 10, withAuras(to, x.want), api.Blow{Kind: api.EffectDispel, Amount: x.n, Done: len(x.l) - len(x.want)})
		}
	}
	harm := someone(lying(shieldTicks), lying(outMost))
	checkDone(t, "odd content", odd(), source(), harm, api.Effect{Kind: api.EffectDispel, Amount: 5}, 10, withAuras(harm, harm.Auras[1:]), api.Blow{Kind: api.EffectDispel, Amount: 5, Done: 1})
}

// TestP18_2DoOthers has kinds that come to nothing here, on someone on whom
// each that does would turn something.
func TestP18_2DoOthers(t *testing.T) {
	to := someone(left(thin, 3), left(thick, 0), due(lying(burns), 5), ending(lying(root), 5), lying(soft))
	for _, kind := range []int{api.EffectTaunt, api.EffectMove, 0, -1, 8, 9, 100, 1<<32 + 1, 1<<32 + 4, most, least} {
		for _, amount := range numbers() {
			for _, id := range []int{0, thick, nobody} {
				e := api.Effect{Kind: kind, Amount: amount, Aura: id}
				checkDone(t, "others", sound(), source(lying(strong)), to, e, 10, to, api.Blow{Kind: kind, Amount: amount})
			}
		}
	}
}

func TestP18_2DoAsTold(t *testing.T) {
	for seed, c := range []api.Content{sound(), odd()} {
		l := newLuck(int64(seed + 3))
		turned, by := map[int]int{}, map[int]int{}
		for range 40000 {
			who, to, e, now := l.actor(c), l.actor(c), l.effect(c), l.number(30)
			got, b := effect.Do(c, who, to, e, now)
			want, wantBlow := plainDo(c, who, to, e, now)
			if told(got) != told(want) || b != wantBlow {
				t.Fatalf("%+v at %d of %s\non %s:\n%s\n%+v, not\n%s\n%+v", e, now, told(who), told(to), told(got), b, told(want), wantBlow)
			}
			by[e.Kind]++
			if told(got) != told(to) {
				turned[e.Kind]++
			}
		}
		for kind := 1; kind <= 7; kind++ {
			none := kind == api.EffectTaunt || kind == api.EffectMove
			if by[kind] < 3000 || none != (turned[kind] == 0) || !none && turned[kind] < 500 {
				t.Errorf("too few of a sort: %v of %v", turned, by)
			}
		}
	}
}
