package effect_test

import (
	"testing"

	"barrow/api"
	"barrow/effect"
)

// hurt is a Blow of a tick that hurts, of which shields kept so much.
func hurt(id, amount, kept, done int) api.Blow {
	return api.Blow{Kind: api.EffectHurt, Aura: id, Amount: amount, Kept: kept, Done: done}
}

// heal is a Blow of a tick that heals.
func heal(id, amount, done int) api.Blow {
	return api.Blow{Kind: api.EffectHeal, Aura: id, Amount: amount, Done: done}
}

// blows spells a row short.
func blows(l ...api.Blow) []api.Blow { return l }

// ticked is a Tick at 10 of someone with that health, and what comes of it.
type ticked struct {
	name   string
	health int
	l      []api.Active

	left  int
	want  []api.Active
	blows []api.Blow
}

func checkAllTicked(t *testing.T, c api.Content, list []ticked) {
	t.Helper()
	for _, x := range list {
		to := withHealth(someone(x.l...), x.health)
		checkTicked(t, x.name, c, to, 10, withHealth(withAuras(to, x.want), x.left), x.blows...)
	}
}

// now is one that is due just at 10.
func now(id int) api.Active { return due(lying(id), 10) }

// next is one that is due then.
func next(id, at int) api.Active { return due(lying(id), at) }

func TestP18_3TickLetsAlone(t *testing.T) {
	l := row(now(hurts), now(heals), ending(lying(root), 5), left(thin, 3), left(thick, 0))
	for name, to := range wrongs(l...) {
		for _, at := range []int{10, 5, 1000, most, least} {
			checkTicked(t, name, sound(), to, at, to)
		}
	}
}

func TestP18_3TickByKind(t *testing.T) {
	checkAllTicked(t, sound(), []ticked{
		{"nothing", 50, nil, 50, nil, nil},
		{"one that hurts", 50, row(now(hurts)), 46, row(next(hurts, 12)), blows(hurt(hurts, 4, 0, 4))},
		{"one that heals", 50, row(now(heals)), 55, row(next(heals, 13)), blows(heal(heals, 5, 5))},
		{"one each tick", 50, row(now(burns)), 43, row(next(burns, 11)), blows(hurt(burns, 7, 0, 7))},
		{"one that hurts by nothing", 50, row(now(idle)), 50, row(next(idle, 11)), blows(hurt(idle, 0, 0, 0))},
		{"others, that are due", 50, row(now(strong), now(weak), now(soft), now(hard), now(root), due(left(thick, 7), 10)), 50, row(now(strong), now(weak), now(soft), now(hard), now(root), due(left(thick, 7), 10)), nil},
		{"none that content has", 50, row(now(nobody), now(0), now(-1)), 50, row(now(nobody), now(0), now(-1)), nil},
		{"it among others", 50, row(now(nobody), now(hurts), now(root)), 46, row(now(nobody), next(hurts, 12), now(root)), blows(hurt(hurts, 4, 0, 4))},
		{"not due yet", 50, row(next(hurts, 11), next(heals, 11)), 50, row(next(hurts, 11), next(heals, 11)), nil},
		{"not due for long", 50, row(next(hurts, most), next(heals, 900)), 50, row(next(hurts, most), next(heals, 900)), nil},
		{"one behind", 50, row(next(hurts, 9)), 46, row(next(hurts, 11)), blows(hurt(hurts, 4, 0, 4))},
		{"far behind: one tick a call", 50, row(next(hurts, 1), next(heals, -50), next(burns, least)), 44, row(next(hurts, 3), next(heals, -47), next(burns, least+1)), blows(hurt(hurts, 4, 0, 4), heal(heals, 5, 5), hurt(burns, 7, 0, 7))},
		{"some are due", 50, row(next(hurts, 11), now(burns), next(heals, 12), next(heals, 8)), 48, row(next(hurts, 11), next(burns, 11), next(heals, 12), next(heals, 11)), blows(hurt(burns, 7, 0, 7), heal(heals, 5, 5))},
		{"stacks that hurt", 50, row(stacked(now(hurts), 3)), 38, row(stacked(next(hurts, 12), 3)), blows(hurt(hurts, 12, 0, 12))},
		{"stacks that heal", 50, row(stacked(now(heals), 2)), 60, row(stacked(next(heals, 13), 2)), blows(heal(heals, 10, 10))},
		{"stacks of 0", 50, row(stacked(now(hurts), 0), stacked(now(heals), 0)), 50, row(stacked(next(hurts, 12), 0), stacked(next(heals, 13), 0)), blows(hurt(hurts, 0, 0, 0), heal(heals, 0, 0))},
		{"stacks below 0", 50, row(stacked(now(hurts), -1), stacked(now(heals), -2)), 50, row(stacked(next(hurts, 12), -1), stacked(next(heals, 13), -2)), blows(hurt(hurts, 0, 0, 0), heal(heals, -10, 0))},
	})
	checkAllTicked(t, api.Content{}, []ticked{{"no content", 50, row(now(hurts), now(heals), left(thin, 0)), 50, row(now(hurts), now(heals), left(thin, 0)), nil}})
}

func TestP18_3TickInOrder(t *testing.T) {
	checkAllTicked(t, sound(), []ticked{
		{"hurts, then heals", 100, row(now(hurts), now(heals)), 100, row(next(hurts, 12), next(heals, 13)), blows(hurt(hurts, 4, 0, 4), heal(heals, 5, 4))},
		{"heals, then hurts", 100, row(now(heals), now(hurts)), 96, row(next(heals, 13), next(hurts, 12)), blows(heal(heals, 5, 0), hurt(hurts, 4, 0, 4))},
		{"heals up to MaxHealth", 95, row(now(heals)), 100, row(next(heals, 13)), blows(heal(heals, 5, 5))},
		{"heals beyond it", 96, row(now(heals), from(now(heals), 2)), 100, row(next(heals, 13), from(next(heals, 13), 2)), blows(heal(heals, 5, 4), heal(heals, 5, 0))},
		{"heals just in time", 4, row(now(heals), now(hurts)), 5, row(next(heals, 13), next(hurts, 12)), blows(heal(heals, 5, 5), hurt(hurts, 4, 0, 4))},
		{"heals too late", 4, row(now(hurts), now(heals)), 0, row(next(hurts, 12), next(heals, 13)), blows(hurt(hurts, 4, 0, 4))},
		{"an aura from two", 50, row(now(hurts), stacked(from(now(hurts), 2), 2)), 38, row(next(hurts, 12), stacked(from(next(hurts, 12), 2), 2)), blows(hurt(hurts, 4, 0, 4), hurt(hurts, 8, 0, 8))},
		{"many", 50, row(now(burns), now(heals), now(hurts), from(now(heals), 2)), 49, row(next(burns, 11), next(heals, 13), next(hurts, 12), from(next(heals, 13), 2)), blows(hurt(burns, 7, 0, 7), heal(heals, 5, 5), hurt(hurts, 4, 0, 4), heal(heals, 5, 5))},
		{"1 is left", 5, row(now(hurts), now(idle)), 1, row(next(hurts, 12), next(idle, 11)), blows(hurt(hurts, 4, 0, 4), hurt(idle, 0, 0, 0))},
		{"just health", 4, row(now(hurts)), 0, row(next(hurts, 12)), blows(hurt(hurts, 4, 0, 4))},
		{"beyond health", 3, row(now(hurts)), 0, row(next(hurts, 12)), blows(hurt(hurts, 4, 0, 3))},
		{"one that kills ahead of others", 7, row(now(hurts), now(burns), now(heals), from(now(burns), 2), now(idle)), 0, row(next(hurts, 12), next(burns, 11), next(heals, 13), from(next(burns, 11), 2), next(idle, 11)), blows(hurt(hurts, 4, 0, 4), hurt(burns, 7, 0, 3))},
		{"one that kills, others not due", 3, row(next(burns, 11), now(hurts), next(heals, 11)), 0, row(next(burns, 11), next(hurts, 12), next(heals, 11)), blows(hurt(hurts, 4, 0, 3))},
	})
}

func TestP18_3TickByParts(t *testing.T) {
	checkAllTicked(t, sound(), []ticked{
		{"AuraIn", 50, row(stacked(now(hurts), 3), lying(soft)), 35, row(stacked(next(hurts, 12), 3), lying(soft)), blows(hurt(hurts, 15, 0, 15))},
		{"AuraIn that is less", 50, row(lying(hard), now(burns)), 47, row(lying(hard), next(burns, 11)), blows(hurt(burns, 3, 0, 3))},
		{"several", 50, row(lying(soft), now(burns), lying(hard), from(lying(soft), 2)), 43, row(lying(soft), next(burns, 11), lying(hard), from(lying(soft), 2)), blows(hurt(burns, 7, 0, 7))},
		{"below -100", 50, row(stacked(lying(hard), 3), now(burns)), 50, row(stacked(lying(hard), 3), next(burns, 11)), blows(hurt(burns, 0, 0, 0))},
		{"not for what heals", 50, row(lying(soft), now(heals), stacked(lying(soft), 3)), 55, row(lying(soft), next(heals, 13), stacked(lying(soft), 3)), blows(heal(heals, 5, 5))},
		{"not for what heals, less", 50, row(stacked(lying(hard), 4), now(heals)), 55, row(stacked(lying(hard), 4), next(heals, 13)), blows(heal(heals, 5, 5))},
		{"AuraOut is no part", 50, row(lying(strong), now(burns), now(heals), lying(weak)), 48, row(lying(strong), next(burns, 11), next(heals, 13), lying(weak)), blows(hurt(burns, 7, 0, 7), heal(heals, 5, 5))},
		{"AuraIn that ends now counts still", 50, row(ending(lying(soft), 10), stacked(now(hurts), 3), ending(from(lying(soft), 2), 3)), 31, row(stacked(next(hurts, 12), 3)), blows(hurt(hurts, 19, 0, 19))},
		{"AuraIn that content does not have", 50, row(lying(nobody), now(burns)), 43, row(lying(nobody), next(burns, 11)), blows(hurt(burns, 7, 0, 7))},
		{"behind the part, a shield", 50, row(left(thin, 12), lying(soft), stacked(now(hurts), 3)), 47, row(lying(soft), stacked(next(hurts, 12), 3)), blows(hurt(hurts, 15, 12, 3))},
	})
}

func TestP18_3TickThroughShields(t *testing.T) {
	s := func(much int) api.Active { return left(thin, much) }
	checkAllTicked(t, sound(), []ticked{
		{"whole", 50, row(s(40), now(hurts)), 50, row(s(36), next(hurts, 12)), blows(hurt(hurts, 4, 4, 0))},
		{"just whole", 50, row(s(4), now(hurts)), 50, row(next(hurts, 12)), blows(hurt(hurts, 4, 4, 0))},
		{"in part", 50, row(now(hurts), s(3)), 49, row(next(hurts, 12)), blows(hurt(hurts, 4, 3, 1))},
		{"used up by an earlier tick", 50, row(now(hurts), s(3), now(burns)), 42, row(next(hurts, 12), next(burns, 11)), blows(hurt(hurts, 4, 3, 1), hurt(burns, 7, 0, 7))},
		{"some is left for a later tick", 50, row(now(hurts), now(burns), s(6)), 45, row(next(hurts, 12), next(burns, 11)), blows(hurt(hurts, 4, 4, 0), hurt(burns, 7, 2, 5))},
		{"two, of which one goes", 50, row(s(5), now(hurts), left(thick, 40), now(burns)), 50, row(next(hurts, 12), left(thick, 34), next(burns, 11)), blows(hurt(hurts, 4, 4, 0), hurt(burns, 7, 7, 0))},
		{"heals past a shield", 50, row(s(3), now(heals)), 55, row(s(3), next(heals, 13)), blows(heal(heals, 5, 5))},
		{"nothing left", 50, row(s(0), now(hurts), left(thick, -4)), 46, row(next(hurts, 12)), blows(hurt(hurts, 4, 0, 4))},
		{"nothing left, by no tick", 50, row(s(0), next(hurts, 11), left(thick, -4)), 50, row(s(0), next(hurts, 11), left(thick, -4)), nil},
		{"nothing left, by nothing", 50, row(s(0), now(idle)), 50, row(s(0), next(idle, 11)), blows(hurt(idle, 0, 0, 0))},
		{"one that ends now keeps still", 50, row(ending(s(3), 10), now(hurts), ending(left(thick, 40), 9)), 50, row(next(hurts, 12)), blows(hurt(hurts, 4, 4, 0))},
		{"one that kills leaves later shields", 1, row(s(3), now(hurts), now(burns), left(thick, 0)), 0, row(next(hurts, 12), next(burns, 11)), blows(hurt(hurts, 4, 3, 1))},
	})
}

func TestP18_3TickExpires(t *testing.T) {
	at := func(until int) api.Active { return ending(lying(root), until) }
	checkAllTicked(t, sound(), []ticked{
		{"just at now", 50, row(at(10)), 50, nil, nil}, {"one above", 50, row(at(11)), 50, row(at(11)), nil}, {"one below", 50, row(at(9)), 50, nil, nil}, {"all three", 50, row(at(9), at(11), at(10)), 50, row(at(11)), nil},
		{"at the ends", 50, row(at(least), at(most), at(0), at(-1)), 50, row(at(most)), nil},
		{"of no aura", 50, row(ending(lying(nobody), 10), lying(nobody)), 50, row(lying(nobody)), nil},
		{"ticks and ends", 50, row(ending(now(hurts), 10)), 46, nil, blows(hurt(hurts, 4, 0, 4))},
		{"ticks and has ended", 50, row(ending(now(heals), 3)), 55, nil, blows(heal(heals, 5, 5))},
		{"ticks and ends one later", 50, row(ending(now(hurts), 11)), 46, row(ending(next(hurts, 12), 11)), blows(hurt(hurts, 4, 0, 4))},
		{"ends, and is not due", 50, row(ending(next(hurts, 11), 10)), 50, nil, nil},
		{"of one that dies", 4, row(at(10), now(hurts), ending(now(heals), 10), at(11), ending(now(burns), 9)), 0, row(next(hurts, 12), at(11)), blows(hurt(hurts, 4, 0, 4))},
		{"dies of one that ends", 4, row(ending(now(hurts), 10), now(heals)), 0, row(next(heals, 13)), blows(hurt(hurts, 4, 0, 4))},
		{"all go", 50, row(at(1), ending(now(hurts), 10), at(10)), 46, nil, blows(hurt(hurts, 4, 0, 4))},
	})
	for _, x := range []struct {
		now  int
		want []api.Active
	}{{most, nil}, {most - 1, row(at(most))}, {least, row(at(0), at(least+1), at(most))}, {least + 1, row(at(0), at(most))}, {0, row(at(most))}, {-1, row(at(0), at(most))}} {
		to := someone(at(0), at(least), at(least+1), at(most))
		checkTicked(t, "at the ends of time", sound(), to, x.now, withAuras(to, x.want))
	}
}

// TestP18_3TickOddContent has auras that content may not have: numbers that
// run over, and auras that tick, of which nothing comes.
func TestP18_3TickOddContent(t *testing.T) {
	checkAllTicked(t, odd(), []ticked{
		{"hurts by most", 50, row(now(hurtMost)), 0, row(next(hurtMost, most)), blows(hurt(hurtMost, api.MaxPart, 0, 50))},
		{"hurts by most, twice", 50, row(stacked(now(hurtMost), 2)), 0, row(stacked(next(hurtMost, most), 2)), blows(hurt(hurtMost, api.MaxPart, 0, 50))},
		{"hurts by most, below 0", 50, row(stacked(now(hurtMost), -1)), 50, row(stacked(next(hurtMost, most), -1)), blows(hurt(hurtMost, 0, 0, 0))},
		{"hurts by least", 50, row(now(hurtLeast)), 50, row(next(hurtLeast, 11)), blows(hurt(hurtLeast, 0, 0, 0))},
		{"hurts by least, twice", 50, row(stacked(now(hurtLeast), 2)), 50, row(stacked(next(hurtLeast, 11), 2)), blows(hurt(hurtLeast, 0, 0, 0))},
		{"hurts by least, below 0", 50, row(stacked(now(hurtLeast), -1)), 0, row(stacked(next(hurtLeast, 11), -1)), blows(hurt(hurtLeast, api.MaxPart, 0, 50))},
		{"heals by most", 50, row(now(healMost)), 100, row(next(healMost, 11)), blows(heal(healMost, most, 50))},
		{"heals by most, twice", 50, row(stacked(now(healMost), 2)), 100, row(stacked(next(healMost, 11), 2)), blows(heal(healMost, most, 50))},
		{"heals by most, below 0", 50, row(stacked(now(healMost), -1)), 50, row(stacked(next(healMost, 11), -1)), blows(heal(healMost, -most, 0))},
		{"heals by least", 50, row(now(healLeast)), 50, row(next(healLeast, 11)), blows(heal(healLeast, least, 0))},
		{"heals by least, twice", 50, row(stacked(now(healLeast), 2)), 50, row(stacked(next(healLeast, 11), 2)), blows(heal(healLeast, least, 0))},
		{"heals by least, below 0", 50, row(stacked(now(healLeast), -1)), 100, row(stacked(next(healLeast, 11), -1)), blows(heal(healLeast, most, 50))},
		{"heals by what would come to 0", 50, row(stacked(now(healHalf), 4)), 100, row(stacked(next(healHalf, 11), 4)), blows(heal(healHalf, most, 50))},
		{"heals by what would be least", 50, row(stacked(now(healHalf), 2)), 100, row(stacked(next(healHalf, 11), 2)), blows(heal(healHalf, most, 50))},
		{"a Stacks of most", 50, row(stacked(now(twice), most)), 0, row(stacked(next(twice, 12), most)), blows(hurt(twice, api.MaxPart, 0, 50))},
		{"a Stacks of least", 50, row(stacked(now(twice), least)), 50, row(stacked(next(twice, 12), least)), blows(hurt(twice, 0, 0, 0))},
		{"below 0, by AuraIn of least", 50, row(lying(inLeast), stacked(now(twice), -1)), 0, row(lying(inLeast), stacked(next(twice, 12), -1)), blows(hurt(twice, 6*api.MaxPart/100, 0, 50))},
		{"by AuraIn of most", 50, row(lying(inMost), now(twice)), 0, row(lying(inMost), next(twice, 12)), blows(hurt(twice, 6*api.MaxPart/100, 0, 50))},
		{"by AuraIn of most and least", 50, row(lying(inMost), now(twice), lying(inLeast)), 45, row(lying(inMost), next(twice, 12), lying(inLeast)), blows(hurt(twice, 5, 0, 5))},
		{"the first of an Id", 50, row(now(twice)), 44, row(next(twice, 12)), blows(hurt(twice, 6, 0, 6))},
		{"others that tick", 50, row(due(left(shieldTicks, 9), 10), now(rootTicks), now(noneTicks), now(outTicks)), 50, row(due(left(shieldTicks, 9), 12), next(rootTicks, 12), next(noneTicks, 12), next(outTicks, 12)), nil},
		{"others that tick, among those that hurt", 50, row(now(rootTicks), now(twice), now(noneTicks), from(now(twice), 2)), 38, row(next(rootTicks, 12), next(twice, 12), next(noneTicks, 12), from(next(twice, 12), 2)), blows(hurt(twice, 6, 0, 6), hurt(twice, 6, 0, 6))},
		{"a shield that ticks keeps, and ticks on", 50, row(now(twice), due(left(shieldTicks, 9), 10)), 50, row(next(twice, 12), due(left(shieldTicks, 3), 12)), blows(hurt(twice, 6, 6, 0))},
		{"a shield that ticks is used up", 50, row(now(twice), due(left(shieldTicks, 2), 10)), 46, row(next(twice, 12)), blows(hurt(twice, 6, 2, 4))},
	})
}

func TestP18_3TickAsTold(t *testing.T) {
	for seed, c := range []api.Content{sound(), odd()} {
		l := newLuck(int64(seed + 5))
		many := map[int]int{}
		for range 40000 {
			to, at := l.actor(c), l.number(24)
			got, b := effect.Tick(c, to, at)
			want, wantBlows := plainTick(c, to, at)
			if told(got) != told(want) || len(b) != len(wantBlows) {
				t.Fatalf("at %d of %s:\n%s\n%+v, not\n%s\n%+v", at, told(to), told(got), b, told(want), wantBlows)
			}
			for i := range b {
				if b[i] != wantBlows[i] {
					t.Fatalf("at %d of %s: %+v, not %+v", at, told(to), b, wantBlows)
				}
			}
			many[min(2, len(b))]++
		}
		if min(many[0], many[1], many[2]) < 2000 {
			t.Errorf("too few of a sort: %v", many)
		}
	}
}
