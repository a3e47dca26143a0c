package effect_test

import (
	"slices"
	"testing"

	"barrow/api"
	"barrow/aura"
	"barrow/body"
	"barrow/effect"
)

// walk is someone to whom much happens, at rising times. Who dies is raised
// after a while.
type walk struct {
	luck
	c   api.Content
	x   api.Actor
	by  api.Actor
	now int
}

// step lets something happen, and answers what it was.
func (w *walk) step() (string, []api.Blow) {
	w.now += w.Intn(5) / 4
	w.by.Unit.Id = 70 + w.Intn(9)
	switch w.Intn(9) {
	case 0, 1:
		var l []api.Blow
		w.x, l = effect.Tick(w.c, w.x, w.now)
		return "Tick", l
	case 2:
		var b api.Blow
		w.x, b = effect.Strike(w.c, w.by, w.x, w.number(30))
		return "Strike", blows(b)
	}
	e := w.effect(w.c)
	switch w.Intn(4) {
	case 0, 1:
		e.Amount = w.Intn(20)
	case 2:
		e.Kind = api.EffectAura
	}
	var b api.Blow
	w.x, b = effect.Do(w.c, w.by, w.x, e, w.now)
	return "Do", blows(b)
}

// turn lets who does the effects be another one, and raises the dead.
func (w *walk) turn() {
	w.by = source(w.auras(w.c)...)
	w.x.Unit, _ = body.Raise(w.x.Unit)
}

// checkHurt holds that what a hurt comes to is what shields kept, what was
// done, and what went beyond, which is there only where no health is left.
func checkHurt(t *testing.T, did string, b api.Blow, health int) {
	t.Helper()
	beyond := b.Amount - b.Kept - b.Done
	if b.Amount < 0 || b.Kept < 0 || b.Done < 0 || beyond < 0 || beyond > 0 && health != 0 {
		t.Fatalf("%s: %+v, and a health of %d: %d went beyond", did, b, health, beyond)
	}
}

// shields is how much the shields of a right row take away together.
func shields(c api.Content, l []api.Active) int {
	sum := 0
	for _, a := range l {
		if plainOf(c, a.Aura).Kind == api.AuraShield {
			sum += a.Left
		}
	}
	return sum
}

func TestP18_5RightStaysRight(t *testing.T) {
	c := sound()
	deaths, longest, kept, beyond := 0, 0, 0, 0
	for seed := range int64(200) {
		w := walk{luck: newLuck(seed), c: c, x: someone(), by: source(), now: int(seed)}
		for i := range 400 {
			if i%20 == 0 {
				w.turn()
			}
			before := w.x
			did, l := w.step()
			if !body.Right(w.x.Unit) || !aura.Right(c, w.x.Auras) {
				t.Fatalf("%s at %d: %s became %s", did, w.now, told(before), told(w.x))
			}
			health := before.Unit.Health
			for _, b := range l {
				switch b.Kind {
				case api.EffectHurt:
					health -= b.Done
					if before.Unit.Health > 0 {
						checkHurt(t, did, b, health)
					}
					kept, beyond = kept+b.Kept, beyond+b.Amount-b.Kept-b.Done
				case api.EffectHeal:
					health += b.Done
				}
			}
			if health != w.x.Unit.Health {
				t.Fatalf("%s at %d: %+v of %s, and it became %s", did, w.now, l, told(before), told(w.x))
			}
			if did != "Tick" && l[0].Kind == api.EffectHurt && shields(c, before.Auras)-l[0].Kept != shields(c, w.x.Auras) {
				t.Fatalf("%s at %d: %+v of %s, and it became %s", did, w.now, l, told(before), told(w.x))
			}
			if before.Unit.Health > 0 && health == 0 {
				deaths++
			}
			longest = max(longest, len(w.x.Auras))
		}
	}
	if deaths < 100 || longest < api.MaxAuras || kept == 0 || beyond == 0 {
		t.Errorf("too little happened: %d deaths, %d auras, %d kept, %d beyond", deaths, longest, kept, beyond)
	}
}

// TestP18_5RightByOddContent has rows and content that are not right: a right
// unit stays so by them, too, and blows come to what they must.
func TestP18_5RightByOddContent(t *testing.T) {
	l, rights := newLuck(31), 0
	for range 20000 {
		x, by, e := l.actor(odd()), l.actor(odd()), l.effect(odd())
		if !body.Right(x.Unit) {
			continue
		}
		rights++
		got, b := effect.Do(odd(), by, x, e, l.number(30))
		after, ticks := effect.Tick(odd(), got, l.number(30))
		if !body.Right(got.Unit) || !body.Right(after.Unit) {
			t.Fatalf("%+v: %s became %s, and then %s", e, told(x), told(got), told(after))
		}
		for _, tick := range ticks {
			if tick.Kind == api.EffectHurt {
				checkHurt(t, "Tick", tick, after.Unit.Health)
			}
		}
		if e.Kind == api.EffectHurt {
			checkHurt(t, "Do", b, got.Unit.Health)
		}
	}
	if rights < 15000 {
		t.Errorf("%d were right", rights)
	}
}

// TestP18_5RightOfFullRows goes on with rows that are as full as they may be,
// of shields, and of auras that tick each time.
func TestP18_5RightOfFullRows(t *testing.T) {
	c := sound()
	x := someone()
	for id := range 16 {
		by := source()
		by.Unit.Id = 100 + id
		for range 7 {
			kind := []int{thick, burns, heals, thin}[id%4]
			var b api.Blow
			x, b = effect.Do(c, by, x, api.Effect{Kind: api.EffectAura, Aura: kind}, id)
			if b.Done != 1 {
				t.Fatalf("%d: %+v", id, b)
			}
		}
	}
	full := x
	for at := range 60 {
		before := x
		var l []api.Blow
		x, l = effect.Tick(c, x, at)
		if !body.Right(x.Unit) || !aura.Right(c, x.Auras) {
			t.Fatalf("at %d: %s became %s", at, told(before), told(x))
		}
		for _, b := range l {
			if b.Kind == api.EffectHurt {
				checkHurt(t, "Tick", b, x.Unit.Health)
			}
		}
	}
	if len(full.Auras) != api.MaxAuras || len(x.Auras) >= len(full.Auras) {
		t.Errorf("%s became %s", told(full), told(x))
	}
}

// TestP18_5WhatABlowComesTo is of each sort of blow, by the health and the
// shields that are there.
func TestP18_5WhatABlowComesTo(t *testing.T) {
	for health := 1; health <= 12; health++ {
		for much := range 8 {
			for n := -2; n <= 24; n++ {
				for _, l := range [][]api.Active{nil, row(lying(soft)), row(lying(hard)), row(stacked(lying(hard), 2))} {
					to := withHealth(someone(append(row(left(thin, much)), l...)...), health)
					got, b := effect.Strike(sound(), source(), to, n)
					checkHurt(t, "Strike", b, got.Unit.Health)
					wantKept := min(b.Amount, much)
					if b.Kept != wantKept || b.Done != min(b.Amount-wantKept, health) || got.Unit.Health != health-b.Done {
						t.Fatalf("%d of %s: %s, %+v", n, told(to), told(got), b)
					}
				}
			}
		}
	}
}

// TestP18_6TheDeadAreLetAlone has right ones that are dead, however much would
// come on them: all calls leave them as they are, at all times.
func TestP18_6TheDeadAreLetAlone(t *testing.T) {
	dead := []api.Actor{
		withHealth(someone(), 0), withHealth(fresh(), 0),
		withHealth(someone(now(hurts), now(heals), ending(lying(root), 5), left(thick, 0), left(thin, 3), lying(soft)), 0),
		withHealth(someone(many(17)...), 0),
	}
	casting := withHealth(fresh(), 0)
	casting.Unit.Casting = 11
	for _, x := range append(dead, casting) {
		for _, one := range calls() {
			got, l := one.made(sound(), source(lying(strong)), x)
			if told(got) != told(x) {
				t.Errorf("%s: %s became %s", one.name, told(x), told(got))
			}
			for _, b := range l {
				if b != (api.Blow{Kind: b.Kind}) {
					t.Errorf("%s: %+v", one.name, b)
				}
			}
		}
		for _, at := range numbers() {
			if got, l := effect.Tick(sound(), x, at); told(got) != told(x) || len(l) != 0 {
				t.Errorf("Tick at %d: %s became %s, %+v", at, told(x), told(got), l)
			}
		}
	}
}

// TestP18_6WhoDiesIsLetAlone has one that dies of a Strike, of an effect and of
// a tick: what comes behind that turns nothing any more.
func TestP18_6WhoDiesIsLetAlone(t *testing.T) {
	x := withHealth(someone(now(hurts), now(burns), ending(lying(root), 12), lying(soft)), 9)
	byStrike, _ := effect.Strike(sound(), source(), x, 9)
	byEffect, _ := effect.Do(sound(), source(), x, api.Effect{Kind: api.EffectHurt, Amount: 100}, 10)
	byTick, l := effect.Tick(sound(), x, 10)
	if len(l) != 2 || l[1].Done != 4 {
		t.Errorf("%+v", l)
	}
	for _, dead := range []api.Actor{byStrike, byEffect, byTick} {
		if dead.Unit.Health != 0 || dead.Unit.Casting != 0 {
			t.Errorf("it lives: %s", told(dead))
		}
		for _, one := range calls() {
			if got, _ := one.made(sound(), source(lying(strong)), dead); told(got) != told(dead) {
				t.Errorf("%s: %s became %s", one.name, told(dead), told(got))
			}
		}
	}
}

func TestP18_Example(t *testing.T) {
	to := withHealth(someone(left(thin, 3)), 6)
	got, b := effect.Do(sound(), source(), to, api.Effect{Kind: api.EffectHurt, Amount: 10}, 0)
	if b != (api.Blow{Kind: api.EffectHurt, Amount: 10, Kept: 3, Done: 6}) || got.Unit.Health != 0 || len(got.Auras) != 0 {
		t.Errorf("%s, %+v", told(got), b)
	}
}

// TestW1OddArguments has arguments of every sort: each call answers.
func TestW1OddArguments(t *testing.T) {
	for _, c := range []api.Content{{}, odd(), sound(), {Auras: []api.Aura{{}}}} {
		for _, x := range append(targets(), api.Actor{Auras: row(api.Active{}, api.Active{Aura: least, Left: least})}) {
			for _, n := range numbers() {
				for _, kind := range kinds() {
					effect.Do(c, x, x, api.Effect{Kind: kind, Amount: n, Aura: n}, n)
				}
				effect.Tick(c, x, n)
				effect.Strike(c, x, x, n)
			}
		}
	}
}

// TestW2AsOften is of calls that are made twice, others between: they keep
// nothing.
func TestW2AsOften(t *testing.T) {
	l, all := newLuck(21), calls()
	for range 5000 {
		c := []api.Content{sound(), odd()}[l.Intn(2)]
		by, x := l.actor(c), l.actor(c)
		one, other := all[l.Intn(len(all))], all[l.Intn(len(all))]
		first, firstBlows := one.made(c, by, x)
		other.made(sound(), x, l.actor(sound()))
		again, againBlows := one.made(c, by, x)
		if told(first) != told(again) || !slices.Equal(firstBlows, againBlows) {
			t.Fatalf("%s of %s: %s\n%+v, and then %s\n%+v", one.name, told(x), told(first), firstBlows, told(again), againBlows)
		}
	}
}
