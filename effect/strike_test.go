package effect_test

import (
	"fmt"
	"testing"

	"barrow/api"
	"barrow/effect"
)

// blow is a strike at someone with health 50, and what comes of it.
type blow struct {
	name string
	out  []api.Active // what lies on who strikes
	in   []api.Active // what lies on whom it strikes
	n    int

	amount, kept, done int
	left               []api.Active // what lies on whom it struck then
}

// check holds Strike to the blow, and Do of EffectHurt as well.
func (b blow) check(t *testing.T, c api.Content) {
	t.Helper()
	by, to := source(b.out...), someone(b.in...)
	want := withHealth(withAuras(to, b.left), 50-b.done)
	wantBlow := api.Blow{Kind: api.EffectHurt, Amount: b.amount, Kept: b.kept, Done: b.done}
	got, told1 := effect.Strike(c, by, to, b.n)
	if told(got) != told(want) || told1 != wantBlow {
		t.Errorf("%s: Strike of %d: %s\n%+v, not\n%s\n%+v", b.name, b.n, told(got), told1, told(want), wantBlow)
	}
	for _, now := range []int{0, 899, most, least} {
		checkDone(t, b.name, c, by, to, api.Effect{Kind: api.EffectHurt, Amount: b.n, Aura: thick}, now, want, wantBlow)
	}
}

// checkBare holds strikes of n at someone on whom what lies stays as it is, by
// no shield.
func checkBare(t *testing.T, c api.Content, name string, out, in []api.Active, n, amount int) {
	t.Helper()
	blow{name: name, out: out, in: in, n: n, amount: amount, done: min(amount, 50), left: in}.check(t, c)
}

func TestP18_1StrikeByNumber(t *testing.T) {
	for n, amount := range map[int]int{
		10: 10, 1: 1, 0: 0, -1: 0, -2: 0, -1000: 0, 2: 2, 48: 48, 49: 49, 50: 50, 51: 51, 100: 100, 1000: 1000,
		api.MaxPart - 1: api.MaxPart - 1, api.MaxPart: api.MaxPart, api.MaxPart + 1: api.MaxPart, 1<<32 + 5: api.MaxPart, 1 << 32: api.MaxPart,
		most: api.MaxPart, most - 1: api.MaxPart, least: 0, least + 1: 0, -1 << 32: 0, -1<<32 + 5: 0, -api.MaxPart - 1: 0,
	} {
		checkBare(t, sound(), "by number", nil, nil, n, amount)
		checkBare(t, odd(), "by number, odd content", nil, nil, n, amount)
		checkBare(t, api.Content{}, "by number, no content", row(lying(strong)), row(lying(soft), left(thick, 9)), n, amount)
	}
}

// TestP18_1StrikeByParts has sums of what lies on both.
func TestP18_1StrikeByParts(t *testing.T) {
	c := sound()
	for _, x := range []struct {
		name      string
		out, in   []api.Active
		n, amount int
	}{
		{"out alone", row(lying(strong)), nil, 10, 15}, {"out less", row(lying(weak)), nil, 10, 8}, {"in alone", nil, row(lying(soft)), 10, 13}, {"in less", nil, row(lying(hard)), 10, 5},
		{"together", row(lying(strong)), row(lying(soft)), 20, 39}, {"together, one less", row(lying(strong)), row(lying(hard)), 20, 15}, {"together, both less", row(lying(weak)), row(lying(hard)), 20, 8},
		{"no sum: parts one behind the other", row(lying(strong)), row(lying(soft)), 100, 195}, {"no sum, of nothing together", row(lying(strong)), row(lying(hard)), 100, 75},
		{"from's part first, rounded", row(lying(strong)), row(lying(hard)), 3, 2}, {"from's less part first, rounded", row(lying(weak)), row(stacked(lying(soft), 3)), 3, 3}, {"from's part first, rounded away", row(lying(weak)), row(stacked(lying(soft), 3)), 1, 0},
		{"several out", row(lying(strong), from(lying(strong), 2), stacked(lying(weak), 2)), nil, 10, 16}, {"several in", nil, row(lying(soft), from(lying(soft), 2), lying(hard)), 10, 11}, {"several of both", row(lying(strong), lying(weak)), row(lying(hard), lying(soft)), 10, 10},
		{"out of stacks", row(stacked(lying(strong), 3)), nil, 10, 25}, {"in of stacks", nil, row(stacked(lying(soft), 3)), 10, 19}, {"stacks of 0", row(stacked(lying(strong), 0)), row(stacked(lying(soft), 0)), 10, 10}, {"stacks below 0", row(stacked(lying(strong), -1)), nil, 10, 5},
		{"out of -100", row(stacked(lying(weak), 5)), nil, 10, 0}, {"in of -100", nil, row(stacked(lying(hard), 2)), 10, 0}, {"out of -120", row(stacked(lying(weak), 6)), nil, 10, 0}, {"in of -150", nil, row(stacked(lying(hard), 3)), 10, 0}, {"both below -100", row(stacked(lying(weak), 6)), row(stacked(lying(hard), 3)), 10, 0}, {"out below -100, in more", row(stacked(lying(weak), 6)), row(lying(soft)), 10, 0}, {"out more, in below -100", row(lying(strong)), row(stacked(lying(hard), 3)), 10, 0},
		{"n below 0, out of -100", row(stacked(lying(weak), 5)), nil, -10, 0}, {"n below 0, out of -120", row(stacked(lying(weak), 6)), nil, -10, 2}, {"n below 0, out of -120, in more", row(stacked(lying(weak), 6)), row(lying(soft)), -100, 26}, {"n below 0, in of -150", nil, row(stacked(lying(hard), 3)), -10, 0}, {"n below 0, both", row(stacked(lying(weak), 6)), row(stacked(lying(hard), 3)), -10, 0}, {"n below 0, more", row(lying(strong)), row(lying(soft)), -10, 0},
		{"from's AuraIn", row(lying(soft)), nil, 10, 10}, {"to's AuraOut", nil, row(lying(strong)), 10, 10}, {"both turned round", row(lying(soft), lying(hard)), row(lying(strong), lying(weak)), 10, 10}, {"both, and others", row(lying(soft), lying(weak)), row(lying(strong), lying(hard)), 10, 4},
		{"from's shield", row(left(thick, 40)), nil, 10, 10}, {"others that lie there", row(lying(hurts), lying(heals), lying(root)), row(lying(hurts), lying(heals), lying(root)), 10, 10},
		{"auras that aren't there", row(lying(nobody), lying(0)), row(lying(nobody), lying(-1)), 10, 10}, {"they among others", row(lying(nobody), lying(strong)), row(lying(soft), lying(nobody)), 20, 39},
		{"auras that have ended, or are due", row(ending(lying(strong), least)), row(due(ending(lying(soft), least), least)), 20, 39},
		{"a great n: to's part cuts it, be it of none", row(lying(strong)), nil, most, api.MaxPart}, {"a great n, less", row(lying(weak)), nil, most, 1717986917}, {"a small n", row(lying(strong)), row(lying(soft)), 1, 1}, {"a small n, less", nil, row(lying(hard)), 1, 0}, {"0", row(lying(strong)), row(lying(soft)), 0, 0},
	} {
		checkBare(t, c, x.name, x.out, x.in, x.n, x.amount)
	}
}

// TestP18_1StrikeAtTheEnds has sums at the ends of numbers: a part of most is
// cut at MaxPart of a hundred, be it by one aura or by many.
func TestP18_1StrikeAtTheEnds(t *testing.T) {
	c := odd()
	o := func(ids ...int) []api.Active {
		var l []api.Active
		for i, id := range ids {
			l = append(l, from(lying(id), i))
		}
		return l
	}
	for _, x := range []struct {
		name      string
		out, in   []api.Active
		n, amount int
	}{
		{"out most", o(outMost), nil, 10, 214748364}, {"in most", nil, o(inMost), 10, 214748364}, {"out least", o(outLeast), nil, 10, 0}, {"in least", nil, o(inLeast), 10, 0},
		{"out most twice", o(outMost, outMost), nil, 10, 214748364}, {"in most twice", nil, o(inMost, inMost), 10, 214748364}, {"out least twice", o(outLeast, outLeast), nil, 10, 0}, {"in least twice", nil, o(inLeast, inLeast), 10, 0}, {"out halves", o(outHalf, outHalf), nil, 10, 214748364}, {"in halves", nil, o(inHalf, inHalf), 10, 214748364},
		{"out most and least", o(outMost, outLeast), nil, 100, 99}, {"out least and most", o(outLeast, outMost), nil, 100, 99}, {"in most and least", nil, o(inMost, inLeast), 100, 99}, {"in most, most, least", nil, o(inMost, inMost, inLeast), 100, 99}, {"out most, least, least", o(outMost, outLeast, outLeast), nil, 100, 0},
		{"out stacks that run over", row(stacked(lying(outHalf), 2)), nil, 10, 214748364}, {"out stacks that would come to 0", row(stacked(lying(outHalf), 4)), nil, 10, 214748364}, {"in stacks that would come to 0", nil, row(stacked(lying(inHalf), 4)), 10, 214748364}, {"in stacks of least below 0", nil, row(stacked(lying(inLeast), -1)), 10, 214748364}, {"out stacks of most below 0", row(stacked(lying(outMost), -2)), nil, 10, 0},
		{"out least, n below 0", o(outLeast), nil, -10, 214748364}, {"in least, n below 0", nil, o(inLeast), -10, 0}, {"out most, n below 0", o(outMost), nil, -10, 0}, {"both least, n below 0", o(outLeast), o(inLeast), -10, 0},
		{"out most, n 0", o(outMost), o(inMost), 0, 0}, {"out most, n most: to's part cuts it", o(outMost), nil, most, api.MaxPart}, {"out least, n least", o(outLeast), nil, least, api.MaxPart}, {"in most, n most", nil, o(inMost), most, api.MaxPart * api.MaxPart / 100}, {"both most, n most", o(outMost), o(inMost), most, api.MaxPart * api.MaxPart / 100}, {"both most, n 1", o(outMost), o(inMost), 1, 21474836 * api.MaxPart / 100}, {"out most, to's part of 0 by two", o(outMost), row(stacked(lying(inHalf), 0)), most, api.MaxPart},
		{"from's in, to's out", o(inMost), o(outMost), 10, 10}, {"from's in, to's out, least", o(inLeast), o(outLeast), 10, 10},
	} {
		checkBare(t, c, x.name, x.out, x.in, x.n, x.amount)
	}
}

func TestP18_1StrikeThroughShields(t *testing.T) {
	a, b := lying(heals), lying(root)
	other := from(left(thin, 4), 2)
	for _, x := range []blow{
		{name: "no shield", n: 10, amount: 10, done: 10},
		{name: "others", in: row(a, b), n: 10, amount: 10, done: 10, left: row(a, b)},
		{name: "one, in part", in: row(left(thin, 3)), n: 10, amount: 10, kept: 3, done: 7},
		{name: "one, all but one", in: row(left(thin, 9)), n: 10, amount: 10, kept: 9, done: 1},
		{name: "one, just whole", in: row(left(thin, 10)), n: 10, amount: 10, kept: 10},
		{name: "one, whole", in: row(left(thick, 11)), n: 10, amount: 10, kept: 10, left: row(left(thick, 1))},
		{name: "one, far more", in: row(left(thick, 400)), n: 10, amount: 10, kept: 10, left: row(left(thick, 390))},
		{name: "one of most", in: row(left(thick, most)), n: 10, amount: 10, kept: 10, left: row(left(thick, most-10))},
		{name: "by 1", in: row(left(thin, 3)), n: 1, amount: 1, kept: 1, left: row(left(thin, 2))},
		{name: "its last, by 1", in: row(left(thin, 1)), n: 1, amount: 1, kept: 1},
		{name: "by 0", in: row(left(thin, 3)), n: 0, left: row(left(thin, 3))},
		{name: "by -1", in: row(left(thin, 3)), n: -1, left: row(left(thin, 3))},
		{name: "by least", in: row(left(thin, 3)), n: least, left: row(left(thin, 3))},
		{name: "by less of it", in: row(left(thin, 3), stacked(lying(hard), 2)), n: 10, left: row(left(thin, 3), stacked(lying(hard), 2))},
		{name: "several, the first one whole", in: row(left(thick, 20), left(thin, 3)), n: 10, amount: 10, kept: 10, left: row(left(thick, 10), left(thin, 3))},
		{name: "several, by both", in: row(left(thin, 3), left(thick, 20)), n: 10, amount: 10, kept: 10, left: row(left(thick, 13))},
		{name: "several, just the first one", in: row(left(thin, 10), left(thick, 20)), n: 10, amount: 10, kept: 10, left: row(left(thick, 20))},
		{name: "several, just all", in: row(left(thin, 3), left(thick, 7)), n: 10, amount: 10, kept: 10},
		{name: "several, in part", in: row(left(thin, 3), left(thick, 5)), n: 10, amount: 10, kept: 8, done: 2},
		{name: "of one aura from two", in: row(left(thin, 3), other), n: 5, amount: 5, kept: 5, left: row(from(left(thin, 2), 2))},
		{name: "others between", in: row(a, left(thin, 3), b, left(thick, 20), a), n: 10, amount: 10, kept: 10, left: row(a, b, left(thick, 13), a)},
		{name: "all go, others stay", in: row(a, left(thin, 3), b, other, a), n: 10, amount: 10, kept: 7, done: 3, left: row(a, b, a)},
		{name: "behind from's part", out: row(lying(strong)), in: row(left(thin, 12)), n: 10, amount: 15, kept: 12, done: 3},
		{name: "behind to's part", in: row(left(thin, 12), lying(soft)), n: 10, amount: 13, kept: 12, done: 1, left: row(lying(soft))},
		{name: "behind both parts", out: row(lying(weak)), in: row(lying(hard), left(thick, 12)), n: 10, amount: 4, kept: 4, left: row(lying(hard), left(thick, 8))},
		{name: "shields of who strikes", out: row(left(thick, 40)), in: row(left(thin, 3)), n: 10, amount: 10, kept: 3, done: 7},
		{name: "a Left of no shield", in: row(left(root, 9), left(nobody, 9), left(soft, 9)), n: 10, amount: 13, done: 13, left: row(left(root, 9), left(nobody, 9), left(soft, 9))},
		{name: "nothing left", in: row(left(thin, 0)), n: 10, amount: 10, done: 10},
		{name: "less than nothing left", in: row(left(thin, -5), left(thick, least)), n: 10, amount: 10, done: 10},
		{name: "nothing left, behind one that takes all", in: row(left(thick, 20), left(thin, 0), a), n: 10, amount: 10, kept: 10, left: row(left(thick, 10), a)},
		{name: "nothing left, ahead of one", in: row(left(thin, 0), left(thick, 20)), n: 10, amount: 10, kept: 10, left: row(left(thick, 10))},
		{name: "nothing left, by 0", in: row(left(thin, 0), left(thick, -1)), n: 0, left: row(left(thin, 0), left(thick, -1))},
		{name: "nothing left, by -1", in: row(left(thin, 0), left(thick, -1)), n: -1, left: row(left(thin, 0), left(thick, -1))},
		{name: "beyond health", n: 51, amount: 51, done: 50},
		{name: "far beyond health", n: most, amount: api.MaxPart, done: 50},
		{name: "just health", n: 50, amount: 50, done: 50},
		{name: "1 is left", n: 49, amount: 49, done: 49},
		{name: "beyond health, behind a shield", in: row(left(thin, 3), a), n: 54, amount: 54, kept: 3, done: 50, left: row(a)},
		{name: "just health, behind a shield", in: row(left(thin, 3), a), n: 53, amount: 53, kept: 3, done: 50, left: row(a)},
		{name: "1 is left, behind a shield", in: row(left(thin, 3), a), n: 52, amount: 52, kept: 3, done: 49, left: row(a)},
		{name: "beyond health by to's part", in: row(lying(soft)), n: 40, amount: 52, done: 50, left: row(lying(soft))},
	} {
		x.check(t, sound())
	}
}

// TestP18_1StrikeLetsAlone has those that are not right, and dead ones, whom
// shields and parts would turn.
func TestP18_1StrikeLetsAlone(t *testing.T) {
	l := row(left(thin, 3), lying(soft), left(thick, 0), lying(root))
	for name, to := range wrongs(l...) {
		for _, n := range numbers() {
			for _, by := range []api.Actor{source(), source(lying(strong)), to} {
				got, b := effect.Strike(sound(), by, to, n)
				if told(got) != told(to) || b != (api.Blow{Kind: api.EffectHurt}) {
					t.Fatalf("%s, %d: %s, %+v", name, n, told(got), b)
				}
			}
		}
	}
}

// TestP18_1StrikeByAnyone has those who strike not right, or dead, or nobody
// at all: only what lies on them counts.
func TestP18_1StrikeByAnyone(t *testing.T) {
	for name, by := range wrongs(lying(strong)) {
		got, b := effect.Strike(sound(), by, someone(), 10)
		if told(got) != told(withHealth(someone(), 35)) || b != (api.Blow{Kind: api.EffectHurt, Amount: 15, Done: 15}) {
			t.Errorf("%s: %s, %+v", name, told(got), b)
		}
	}
	self := someone(lying(strong), lying(soft), left(thin, 3))
	got, b := effect.Strike(sound(), self, self, 20)
	if told(got) != told(withHealth(withAuras(self, self.Auras[:2]), 14)) || b != (api.Blow{Kind: api.EffectHurt, Amount: 39, Kept: 3, Done: 36}) {
		t.Errorf("oneself: %s, %+v", told(got), b)
	}
}

// TestP18_1StrikeAtItsEnds has units at the ends of what a right one may be.
func TestP18_1StrikeAtItsEnds(t *testing.T) {
	for _, x := range []struct{ health, maxHealth, n, done int }{
		{1, 1, 1, 1}, {1, 1, 0, 0}, {1, 1, 9, 1}, {1, 100, 1, 1}, {100, 100, 99, 99}, {100, 100, 100, 100}, {100, 100, 101, 100},
		{api.MaxAmount, api.MaxAmount, api.MaxAmount, api.MaxAmount}, {api.MaxAmount, api.MaxAmount, api.MaxAmount - 1, api.MaxAmount - 1}, {api.MaxAmount, api.MaxAmount, most, api.MaxAmount}, {5, api.MaxAmount, 6, 5},
	} {
		to := someone()
		to.Unit.Health, to.Unit.MaxHealth = x.health, x.maxHealth
		want := withHealth(to, x.health-x.done)
		e := api.Effect{Kind: api.EffectHurt, Amount: x.n}
		checkDone(t, fmt.Sprintf("%+v", x), sound(), source(), to, e, 5, want, api.Blow{Kind: api.EffectHurt, Amount: min(x.n, api.MaxPart), Done: x.done})
	}
}

func TestP18_1StrikeAsTold(t *testing.T) {
	for seed, c := range []api.Content{sound(), odd()} {
		l := newLuck(int64(seed + 1))
		many := map[bool]int{}
		for range 30000 {
			by, to, n := l.actor(c), l.actor(c), l.number(80)
			got, b := effect.Strike(c, by, to, n)
			want, wantBlow := plainDo(c, by, to, api.Effect{Kind: api.EffectHurt, Amount: n}, 0)
			if told(got) != told(want) || b != wantBlow {
				t.Fatalf("%d of %s\non %s:\n%s\n%+v, not\n%s\n%+v", n, told(by), told(to), told(got), b, told(want), wantBlow)
			}
			many[b.Kept > 0]++
			many[b.Done > 0]++
		}
		if min(many[true], many[false]) < 5000 {
			t.Errorf("too few of a sort: %v", many)
		}
	}
}
