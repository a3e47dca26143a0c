package cast_test

import (
	"fmt"
	"math/big"
	"math/rand"
	"slices"
	"testing"

	"barrow/api"
	"barrow/cast"
)

const (
	most  = api.MaxInt
	least = api.MinInt
)

// of is a cast of that ability.
func of(ability, target, since, until int) api.Cast {
	return api.Cast{Ability: ability, Target: target, Since: since, Until: until}
}

// none is a Casting without casts.
func none(wait int) api.Casting { return api.Casting{Wait: wait} }

// alone is a Casting with no cast behind the first.
func alone(now api.Cast, wait int) api.Casting { return api.Casting{Now: now, Wait: wait} }

// behind is a Casting with no first cast.
func behind(next api.Cast, wait int) api.Casting { return api.Casting{Next: next, Wait: wait} }

func both(now, next api.Cast, wait int) api.Casting {
	return api.Casting{Now: now, Next: next, Wait: wait}
}

// some is an ability of that Id, with such a Cast. What else it has must not
// matter.
func some(id, casts int) api.Ability {
	return api.Ability{Id: id, Cast: casts, Cool: 7, Charges: 2, Range: 8, Cost: 9, Sight: true, Effects: []api.Effect{{Kind: api.EffectHurt, Amount: 5}}}
}

// numbers are small ones, the ends of numbers, and some that would run over
// into small ones.
func numbers() []int {
	return []int{0, 1, -1, 2, 3, 5, 7, 10, 13, 15, 100, -1000, 1 << 32, 1<<32 + 1, -1 << 32, 1 << 62, -1 << 62, most, most - 1, most - 2, most - 3, most - 4, most - 5, least, least + 1, least + 2, least + 3, least + 5}
}

// plainAdd adds as numbers of any length, and then holds the sum.
func plainAdd(a, b int) int {
	sum := new(big.Int).Add(big.NewInt(int64(a)), big.NewInt(int64(b)))
	switch {
	case sum.Cmp(big.NewInt(most)) > 0:
		return most
	case sum.Cmp(big.NewInt(least)) < 0:
		return least
	}
	return int(sum.Int64())
}

// plainThere are the casts that are there, in their order.
func plainThere(s api.Casting) []api.Cast {
	var list []api.Cast
	if s.Now.Ability != 0 {
		list = append(list, s.Now)
	}
	if s.Next.Ability != 0 {
		list = append(list, s.Next)
	}
	return list
}

func plainRight(s api.Casting) bool {
	ok := true
	for _, c := range []api.Cast{s.Now, s.Next} {
		if c.Ability == 0 {
			ok = ok && c.Target == 0 && c.Since == 0 && c.Until == 0
		} else {
			ok = ok && c.Ability > 0 && !(c.Until < c.Since)
		}
	}
	if s.Next.Ability != 0 {
		ok = ok && s.Now.Ability != 0 && s.Now.Until == s.Next.Since
	}
	return ok
}

func plainFree(s api.Casting, now int) bool {
	if s.Now.Ability != 0 {
		return false
	}
	return !(now < s.Wait)
}

func plainDone(s api.Casting) int {
	list := plainThere(s)
	if len(list) == 0 {
		return s.Wait
	}
	return list[len(list)-1].Until
}

func plainBegin(s api.Casting, a api.Ability, target, now int) (api.Casting, api.Errno) {
	if !plainRight(s) || a.Id <= 0 || a.Cast <= -1 {
		return api.Casting{}, api.ErrArg
	}
	window := plainAdd(now, 2)
	if s.Now.Ability == 0 {
		if window < s.Wait {
			return api.Casting{}, api.ErrBusy
		}
		since := now
		if now < s.Wait {
			since = s.Wait
		}
		return alone(of(a.Id, target, since, plainAdd(since, a.Cast)), plainAdd(since, 3)), api.OK
	}
	end := s.Now.Until
	if s.Next.Ability != 0 || window < end || end < s.Wait {
		return api.Casting{}, api.ErrBusy
	}
	return both(s.Now, of(a.Id, target, end, plainAdd(end, a.Cast)), s.Wait), api.OK
}

func plainStop(s api.Casting) (api.Casting, int) { return none(s.Wait), len(plainThere(s)) }

func plainStep(s api.Casting, now int) (api.Casting, []api.Cast) {
	if s.Now.Ability == 0 || now < s.Now.Until {
		return s, nil
	}
	wait := s.Wait
	if s.Next.Ability != 0 {
		wait = plainAdd(s.Next.Since, 3)
	}
	left, done := plainStep(alone(s.Next, wait), now)
	return left, append([]api.Cast{s.Now}, done...)
}

// luck draws Castings and times that are near one another, and near a time of
// its own.
type luck struct {
	source *rand.Rand
	base   int
}

// newLuck is of the time 0, or of one at the ends of numbers.
func newLuck(source *rand.Rand) luck {
	bases := []int{0, 0, 0, 0, -40, most - 12, most - 5, most, least, least + 4}
	return luck{source, bases[source.Intn(len(bases))]}
}

// time is some time, mostly one near the others.
func (l luck) time() int {
	if l.source.Intn(25) == 0 {
		return numbers()[l.source.Intn(len(numbers()))]
	}
	return plainAdd(l.base, l.source.Intn(16)-4)
}

// length is how long some cast takes.
func (l luck) length() int {
	if l.source.Intn(15) == 0 {
		return []int{most, most - 1, 1 << 32, api.MaxAmount}[l.source.Intn(4)]
	}
	return l.source.Intn(6)
}

// right is some Casting that is right.
func (l luck) right() api.Casting {
	since := l.time()
	now := of(1+l.source.Intn(3), l.source.Intn(9), since, plainAdd(since, l.length()))
	next := of(1+l.source.Intn(3), l.source.Intn(9), now.Until, plainAdd(now.Until, l.length()))
	wait := plainAdd(since, l.source.Intn(7)-1)
	if l.source.Intn(4) == 0 {
		wait = l.time()
	}
	switch l.source.Intn(4) {
	case 0:
		return none(wait)
	case 1, 2:
		return alone(now, wait)
	}
	return both(now, next, wait)
}

// any is some Casting: a right one, or one of which a number was turned, or of
// which the first cast is gone.
func (l luck) any() api.Casting {
	s := l.right()
	switch l.source.Intn(6) {
	case 0, 1:
		all := []*int{&s.Now.Ability, &s.Now.Target, &s.Now.Since, &s.Now.Until, &s.Next.Ability, &s.Next.Target, &s.Next.Since, &s.Next.Until}
		*all[l.source.Intn(len(all))] = []int{0, -1, 1, l.time(), l.time()}[l.source.Intn(5)]
	case 2:
		s.Now = api.Cast{}
	}
	return s
}

// ability is some ability, mostly one that may begin.
func (l luck) ability() api.Ability {
	a := some(1+l.source.Intn(5), l.length())
	switch l.source.Intn(16) {
	case 0:
		a.Id = []int{0, -1, least, most}[l.source.Intn(4)]
	case 1:
		a.Cast = []int{-1, -2, least}[l.source.Intn(3)]
	}
	return a
}

// small are all Castings of small numbers, of casts of abilities from -1 to 1,
// without those that have a target and an ability.
func small() []api.Casting {
	var ones []api.Cast
	for ability := -1; ability <= 1; ability++ {
		for since := -1; since <= 1; since++ {
			for until := -1; until <= 1; until++ {
				ones = append(ones, of(ability, 0, since, until))
			}
		}
	}
	ones = append(ones, of(0, 1, 0, 0), of(0, -1, 0, 0), of(0, 1, 1, 1))
	var list []api.Casting
	for _, now := range ones {
		for _, next := range ones {
			for wait := -1; wait <= 3; wait++ {
				list = append(list, both(now, next, wait))
			}
		}
	}
	return list
}

// atTheEnds are Castings whose times are numbers of any sort, right ones and
// others.
func atTheEnds() []api.Casting {
	var list []api.Casting
	for _, n := range numbers() {
		list = append(list, none(n))
		for _, m := range numbers() {
			list = append(list, alone(of(1, 2, n, m), m), alone(of(1, 2, 5, n), m), alone(of(n, m, 0, 5), 3), behind(of(1, 2, n, m), n),
				both(of(1, 2, n, m), of(3, 4, m, most), n), both(of(1, 2, least, n), of(3, 4, n, m), m), both(of(1, 2, 0, n), of(3, 4, m, most), 5), both(of(1, 2, 0, 5), of(n, m, 5, 5), 3))
		}
	}
	return list
}

func TestP17_1RightByCases(t *testing.T) {
	now, next := of(3, 9, 10, 15), of(4, 8, 15, 20)
	cases := []struct {
		name string
		s    api.Casting
		want bool
	}{
		{"nothing", api.Casting{}, true}, {"no cast", none(5), true}, {"Now alone", alone(now, 13), true}, {"both", both(now, next, 13), true}, {"Next alone", behind(next, 13), false}, {"Next alone from 0 on", behind(of(4, 8, 0, 5), 0), false}, {"Next alone of no length at 0", behind(of(4, 0, 0, 0), 0), false},
		{"both of one ability", both(now, of(3, 9, 15, 20), 13), true}, {"both alike, of no length", both(of(3, 9, 10, 10), of(3, 9, 10, 10), 13), true},
		{"a Now from 0 on", alone(of(3, 9, 0, 5), 3), true}, {"a Now of no length at 0", alone(of(3, 0, 0, 0), 0), true}, {"a Now below 0", alone(of(3, 9, -9, -4), 0), true}, {"both below 0", both(of(3, 9, -9, -4), of(4, 9, -4, -1), 0), true}, {"through 0", both(of(3, 9, -9, 0), of(4, 9, 0, 7), 0), true}, {"a Next of no length at 0", both(of(3, 9, -9, 0), of(4, 0, 0, 0), 0), true},
		{"Until just at Since", alone(of(3, 9, 10, 10), 13), true}, {"Until one above", alone(of(3, 9, 10, 11), 13), true}, {"Until one below", alone(of(3, 9, 10, 9), 13), false}, {"Until far below", alone(of(3, 9, 10, -10), 13), false}, {"Until far above", alone(of(3, 9, 10, most), 13), true},
		{"Next's Until just at Since", both(now, of(4, 8, 15, 15), 13), true}, {"Next's Until one above", both(now, of(4, 8, 15, 16), 13), true}, {"Next's Until one below", both(now, of(4, 8, 15, 14), 13), false}, {"Next's Until far below", both(now, of(4, 8, 15, least), 13), false}, {"Now's Until one below, Next from there on", both(of(3, 9, 10, 9), of(4, 8, 9, 12), 13), false},
		{"Next one ahead of Now's end", both(now, of(4, 8, 14, 20), 13), false}, {"Next one behind it", both(now, of(4, 8, 16, 20), 13), false}, {"Next begins with Now", both(now, of(4, 8, 10, 20), 13), false}, {"Next ends when Now ends", both(now, of(4, 8, 10, 15), 13), false}, {"Next begins at 0", both(now, of(4, 8, 0, 20), 13), false}, {"Next begins where it would be cut", both(now, of(4, 8, 1<<32+15, 1<<32+20), 13), false},
		{"from end to end", alone(of(3, 9, least, most), 13), true}, {"from most to least", alone(of(3, 9, most, least), 13), false}, {"from 1 to least", alone(of(3, 9, 1, least), 13), false}, {"from most to -2", alone(of(3, 9, most, -2), 13), false}, {"just at most", alone(of(3, 9, most, most), 13), true}, {"just at least", alone(of(3, 9, least, least), 13), true}, {"both just at most", both(of(3, 9, most, most), of(4, 9, most, most), 13), true}, {"both just at least", both(of(3, 9, least, least), of(4, 9, least, least), 13), true}, {"Next from most to least", both(of(3, 9, 10, most), of(4, 9, most, least), 13), false},
	}
	for _, one := range cases {
		if got := cast.Right(one.s); got != one.want {
			t.Errorf("%s: %v", one.name, got)
		}
	}
}

// TestP17_1RightByAbility is of casts that are right but for their abilities.
func TestP17_1RightByAbility(t *testing.T) {
	for ability, want := range map[int]bool{1: true, 2: true, 0: false, -1: false, most: true, least: false, 1 << 32: true, -1 << 32: false, least + 1: false} {
		now, next := of(ability, 9, 10, 15), of(ability, 8, 15, 20)
		for name, s := range map[string]api.Casting{"Now alone": alone(now, 13), "Now": both(now, of(4, 8, 15, 20), 13), "Next": both(of(3, 9, 10, 15), next, 13), "both": both(now, next, 13)} {
			if got := cast.Right(s); got != want {
				t.Errorf("%s, ability %d: %v", name, ability, got)
			}
		}
		if cast.Right(behind(next, 13)) {
			t.Errorf("Next alone, ability %d", ability)
		}
	}
}

// notThere are casts that are not there, each with one number that is not
// zero, but the first one, which is zero.
func notThere() []api.Cast {
	list := []api.Cast{{}}
	for _, n := range []int{1, -1, 5, 1 << 32, most, least} {
		list = append(list, of(0, n, 0, 0), of(0, 0, n, 0), of(0, 0, 0, n))
	}
	return list
}

func TestP17_1RightOfCastsNotThere(t *testing.T) {
	for _, c := range notThere() {
		want := c == api.Cast{}
		for _, wait := range numbers() {
			for name, s := range map[string]api.Casting{"Now, without Next": alone(c, wait), "Next, without Now": behind(c, wait), "Next, behind Now": both(of(3, 9, 10, 15), c, wait), "Next, behind Now that ends at 0": both(of(3, 0, 0, 0), c, wait)} {
				if got := cast.Right(s); got != want {
					t.Errorf("%s: %+v, Wait %d: %v", name, c, wait, got)
				}
			}
			if cast.Right(both(c, of(4, 8, c.Until, c.Until), wait)) {
				t.Errorf("Now, with a Next: %+v", c)
			}
		}
	}
	if cast.Right(both(of(0, 0, 5, 5), of(0, 0, 5, 5), 0)) || cast.Right(both(of(0, 1, 0, 0), of(0, 1, 0, 0), 0)) {
		t.Error("neither is there, and neither is zero")
	}
}

// TestP17_1RightByWait is of a Wait of any sort, which must not matter.
func TestP17_1RightByWait(t *testing.T) {
	now, next := of(3, 9, 10, 15), of(4, 8, 15, 20)
	for _, wait := range append(numbers(), 9, 11, 12, 14, 16, 19, 20, 21) {
		if !cast.Right(none(wait)) || !cast.Right(alone(now, wait)) || !cast.Right(both(now, next, wait)) {
			t.Errorf("a Wait of %d turns right into wrong", wait)
		}
		if cast.Right(behind(next, wait)) || cast.Right(alone(of(3, 9, 10, 9), wait)) || cast.Right(both(now, of(4, 8, 16, 20), wait)) {
			t.Errorf("a Wait of %d turns wrong into right", wait)
		}
	}
}

// checkAsTold holds a call against what is told of it, at all small Castings,
// at numbers of any sort, and at many drawn ones.
func checkAsTold(t *testing.T, seed int64, check func(s api.Casting, a api.Ability, now int)) {
	t.Helper()
	for _, s := range small() {
		for now := -3; now <= 2; now++ {
			check(s, some(2, 1), now)
		}
	}
	for _, s := range atTheEnds() {
		for _, n := range numbers() {
			check(s, some(2, 3), n)
		}
	}
	source := rand.New(rand.NewSource(seed))
	for range 100000 {
		l := newLuck(source)
		check(l.any(), l.ability(), l.time())
	}
}

func TestP17_1AsTold(t *testing.T) {
	rights, frees := map[bool]int{}, map[bool]int{}
	checkAsTold(t, 1, func(s api.Casting, _ api.Ability, now int) {
		if got := cast.Right(s); got != plainRight(s) {
			t.Fatalf("Right of %+v: %v", s, got)
		}
		if got := cast.Free(s, now); got != plainFree(s, now) {
			t.Fatalf("Free of %+v at %d: %v", s, now, got)
		}
		if got := cast.Done(s); got != plainDone(s) {
			t.Fatalf("Done of %+v: %d, not %d", s, got, plainDone(s))
		}
		rights[plainRight(s)]++
		frees[plainFree(s, now)]++
	})
	if min(rights[true], rights[false], frees[true], frees[false]) < 20000 {
		t.Errorf("too few of a sort: %v, %v", rights, frees)
	}
}

func TestP17_1FreeByCases(t *testing.T) {
	now, next := of(3, 9, 10, 15), of(4, 8, 15, 20)
	cases := []struct {
		name string
		s    api.Casting
		now  int
		want bool
	}{
		{"nothing at 0", api.Casting{}, 0, true}, {"nothing at 1", api.Casting{}, 1, true}, {"nothing at -1", api.Casting{}, -1, false},
		{"Wait just at now", none(13), 13, true}, {"one above", none(13), 12, false}, {"one below", none(13), 14, true}, {"far above", none(13), -50, false}, {"far below", none(13), 500, true}, {"Wait in the Window", none(13), 11, false},
		{"Wait below 0, at now", none(-7), -7, true}, {"Wait below 0, above", none(-7), -8, false}, {"Wait below 0, below", none(-7), 0, true},
		{"most at most", none(most), most, true}, {"most at most less one", none(most), most - 1, false}, {"most at least", none(most), least, false}, {"least at least", none(least), least, true}, {"least at most", none(least), most, true}, {"least and one at least", none(least + 1), least, false}, {"0 at least", none(0), least, false}, {"-2 at most", none(-2), most, true}, {"1 at least", none(1), least, false},
		{"Now, ahead of Wait", alone(now, 13), 12, false}, {"Now, at Wait", alone(now, 13), 13, false}, {"Now, one ahead of its end", alone(now, 13), 14, false}, {"Now, at its end", alone(now, 13), 15, false}, {"Now, behind it", alone(now, 13), 100, false}, {"Now, at most", alone(now, least), most, false},
		{"both", both(now, next, 13), 14, false}, {"both, behind them", both(now, next, 13), 50, false},
		{"Next alone, Wait at now", behind(next, 13), 13, true}, {"Next alone, Wait above", behind(next, 13), 12, false}, {"Next alone, behind it", behind(next, 13), 50, true},
		{"a Now of ability -1", alone(of(-1, 9, 10, 15), 5), 20, false}, {"of least", alone(of(least, 9, 10, 15), 5), 20, false}, {"a Now that ends ahead of its beginning", alone(of(3, 9, 10, 5), 5), 20, false}, {"of 1 and no other number", alone(of(1, 0, 0, 0), 0), 20, false}, {"of 1<<32", alone(of(1<<32, 0, 0, 0), 0), 20, false},
		{"no ability, but a Target", alone(of(0, 9, 0, 0), 5), 5, true}, {"no ability, but a Since", alone(of(0, 0, 9, 0), 5), 5, true}, {"no ability, but an Until", alone(of(0, 0, 0, 9), 5), 5, true}, {"no ability, but an Until, Wait above", alone(of(0, 0, 0, 9), 6), 5, false},
	}
	for _, one := range cases {
		if got := cast.Free(one.s, one.now); got != one.want {
			t.Errorf("%s: %v", one.name, got)
		}
	}
}

func TestP17_1DoneByCases(t *testing.T) {
	now, next := of(3, 9, 10, 15), of(4, 8, 15, 20)
	cases := []struct {
		name string
		s    api.Casting
		want int
	}{
		{"nothing", api.Casting{}, 0}, {"none", none(7), 7}, {"none, a Wait below 0", none(-7), -7}, {"none, most", none(most), most}, {"none, least", none(least), least},
		{"Now alone", alone(now, 13), 15}, {"Now alone, a later Wait", alone(now, 99), 15}, {"Now alone, of no length", alone(of(3, 9, 10, 10), 13), 10}, {"Now alone till most", alone(of(3, 9, 10, most), 13), most}, {"Now alone till 0", alone(of(3, 9, -5, 0), 13), 0}, {"Now alone till least", alone(of(3, 9, least, least), 13), least},
		{"both", both(now, next, 13), 20}, {"both, a later Wait", both(now, next, 99), 20}, {"both, Next of no length", both(now, of(4, 8, 15, 15), 13), 15}, {"both, till most", both(now, of(4, 8, 15, most), 13), most}, {"both, till 0", both(of(3, 9, -9, -5), of(4, 8, -5, 0), 13), 0},
		{"Next alone", behind(next, 13), 20}, {"Next alone till 0", behind(of(4, 8, -5, 0), 13), 0}, {"Next that ends ahead of Now", both(now, of(4, 8, 2, 5), 13), 5}, {"Next that ends ahead of its beginning", both(now, of(4, 8, 15, 11), 13), 11},
		{"a Now of -1", alone(of(-1, 9, 10, 15), 13), 15}, {"a Next of -1", both(now, of(-1, 9, 15, 20), 13), 20}, {"a Next of least", both(now, of(least, 9, 15, 20), 13), 20}, {"a Now that ends ahead of its beginning", alone(of(3, 9, 10, 5), 13), 5}, {"a Now of 1 and no other number", alone(of(1, 0, 0, 0), 13), 0}, {"a Next of 1 and no other number", both(now, of(1, 0, 0, 0), 13), 0}, {"a Next of 1<<32", both(now, of(1<<32, 0, 0, 0), 13), 0},
		{"a Now of no ability", alone(of(0, 9, 10, 15), 13), 13}, {"a Next of no ability", both(now, of(0, 9, 15, 20), 13), 15}, {"neither of an ability", both(of(0, 9, 10, 15), of(0, 9, 15, 20), 13), 13}, {"a Now of no ability ahead of a Next", both(of(0, 9, 10, 15), next, 13), 20},
	}
	for _, one := range cases {
		if got := cast.Done(one.s); got != one.want {
			t.Errorf("%s: %d, not %d", one.name, got, one.want)
		}
	}
}

// checkRefused holds that Begin tells that error, and nothing beside it.
func checkRefused(t *testing.T, name string, s api.Casting, a api.Ability, target, now int, want api.Errno) {
	t.Helper()
	if made, err := cast.Begin(s, a, target, now); err != want || made != (api.Casting{}) {
		t.Errorf("%s: %+v, %d, not %d", name, made, err, want)
	}
}

// checkBegun holds that Begin answers the Casting that is wanted.
func checkBegun(t *testing.T, name string, s api.Casting, a api.Ability, target, now int, want api.Casting) {
	t.Helper()
	if made, err := cast.Begin(s, a, target, now); err != api.OK || made != want {
		t.Errorf("%s: %+v, %d, not %+v", name, made, err, want)
	}
}

// wrongs are Castings that are not right, each for one reason.
func wrongs() map[string]api.Casting {
	now, next := of(3, 9, 10, 15), of(4, 8, 15, 20)
	list := map[string]api.Casting{
		"Next alone": behind(next, 13), "Next alone at 0": behind(of(4, 0, 0, 0), 0),
		"a Now of -1": alone(of(-1, 9, 10, 15), 13), "a Now of least": alone(of(least, 9, 10, 15), 13), "a Now of no ability": alone(of(0, 9, 10, 15), 13), "a Now of -1 ahead of Next": both(of(-1, 9, 10, 15), next, 13), "a Now of no ability ahead of Next": both(of(0, 9, 10, 15), next, 13),
		"a Next of -1": both(now, of(-1, 8, 15, 20), 13), "a Next of least": both(now, of(least, 8, 15, 20), 13), "a Next of no ability": both(now, of(0, 8, 15, 20), 13),
		"a Now that ends one ahead of its beginning": alone(of(3, 9, 10, 9), 5), "such a Next": both(now, of(4, 8, 15, 14), 13), "such a Now ahead of Next": both(of(3, 9, 10, 9), of(4, 8, 9, 12), 5),
		"a Next one ahead of Now's end": both(now, of(4, 8, 14, 20), 13), "a Next one behind it": both(now, of(4, 8, 16, 20), 13),
	}
	for _, c := range notThere()[1:] {
		list[fmt.Sprintf("a Now %+v", c)] = alone(c, 13)
		list[fmt.Sprintf("a Next %+v", c)] = behind(c, 13)
		list[fmt.Sprintf("a Next %+v behind Now", c)] = both(now, c, 13)
	}
	return list
}

// TestP17_2BeginWrongCasting is of all times: of some at which a right one
// would not be busy, and of others at which it would be, so that ErrArg comes
// ahead of ErrBusy.
func TestP17_2BeginWrongCasting(t *testing.T) {
	for name, s := range wrongs() {
		for _, now := range append(numbers(), 11, 12, 14, 16, 20) {
			for _, a := range []api.Ability{some(1, 0), some(6, 4), some(most, most)} {
				checkRefused(t, fmt.Sprintf("%s, at %d", name, now), s, a, 7, now, api.ErrArg)
			}
		}
	}
	for _, now := range []int{13, 14, 15, 99} {
		checkBegun(t, "a right Now", alone(of(3, 9, 10, 15), 13), some(6, 4), 7, now, both(of(3, 9, 10, 15), of(6, 7, 15, 19), 13))
		checkBegun(t, "a right Now of 1 and of no length", alone(of(1, 0, 10, 10), 5), some(6, 4), 7, now, both(of(1, 0, 10, 10), of(6, 7, 10, 14), 5))
	}
}

func TestP17_2BeginWrongAbility(t *testing.T) {
	now := of(3, 9, 10, 15)
	free := map[string]api.Casting{"none": none(13), "Now": alone(now, 13)}
	busy := map[string]api.Casting{"none, to wait": none(16), "none, to wait long": none(most), "both": both(now, of(4, 8, 15, 20), 13), "Now, for long": alone(of(3, 9, 10, 16), 13), "Now, to wait": alone(now, 16)}
	for _, wrong := range []api.Ability{some(0, 4), some(-1, 4), some(least, 4), some(0, 0), some(6, -1), some(6, -2), some(6, least), some(0, -1), some(-1, -1)} {
		for name, s := range free {
			checkRefused(t, fmt.Sprintf("%s, Id %d, Cast %d", name, wrong.Id, wrong.Cast), s, wrong, 7, 13, api.ErrArg)
		}
		for name, s := range busy {
			checkRefused(t, fmt.Sprintf("%s, Id %d, Cast %d", name, wrong.Id, wrong.Cast), s, wrong, 7, 13, api.ErrArg)
		}
	}
	for name, s := range busy {
		checkRefused(t, name, s, some(6, 4), 7, 13, api.ErrBusy)
	}
	for _, id := range []int{1, 2, 1 << 32, most} {
		checkBegun(t, fmt.Sprintf("Id %d", id), none(13), some(id, 4), 7, 13, alone(of(id, 7, 13, 17), 16))
		checkBegun(t, fmt.Sprintf("Id %d, behind Now", id), alone(now, 13), some(id, 4), 7, 13, both(now, of(id, 7, 15, 19), 13))
	}
}

// TestP17_2BeginByWait is of Castings without casts.
func TestP17_2BeginByWait(t *testing.T) {
	cases := []struct {
		name        string
		wait, now   int
		since, next int
	}{
		{"nothing at 0", 0, 0, 0, 3}, {"just at now", 50, 50, 50, 53}, {"one above now", 50, 49, 50, 53}, {"above by Window", 50, 48, 50, 53}, {"one below now", 50, 51, 51, 54}, {"two below now", 50, 52, 52, 55}, {"far below now", 50, 500, 500, 503},
		{"below 0, at now", -50, -50, -50, -47}, {"below 0, above by Window", -50, -52, -50, -47}, {"below 0, below now", -50, -49, -49, -46}, {"through 0", 1, -1, 1, 4}, {"0 above by Window", 0, -2, 0, 3}, {"0 above by one", 0, -1, 0, 3}, {"0 below now", 0, 1, 1, 4},
		{"most at most", most, most, most, most}, {"most, one above", most, most - 1, most, most}, {"most, above by Window", most, most - 2, most, most}, {"most less one at most", most - 1, most, most, most}, {"most less one, above by Window", most - 1, most - 3, most - 1, most}, {"least at most", least, most, most, most}, {"-2 at most", -2, most, most, most},
		{"least at least", least, least, least, least + 3}, {"one above at least", least + 1, least, least + 1, least + 4}, {"above by Window at least", least + 2, least, least + 2, least + 5}, {"least at 0", least, 0, 0, 3},
		{"Pause runs over by one", 0, most - 2, most - 2, most}, {"Pause meets the end", 0, most - 3, most - 3, most}, {"Pause ends one ahead", 0, most - 4, most - 4, most - 1}, {"Pause of Wait runs over", most - 2, most - 3, most - 2, most}, {"Pause of Wait ends one ahead", most - 4, most - 5, most - 4, most - 1}, {"a Wait that would be cut", 1 << 32, 1<<32 - 1, 1 << 32, 1<<32 + 3},
	}
	for _, one := range cases {
		for _, casts := range []int{0, 1, 2, 3, 4, 9, api.MaxAmount, most - 1, most} {
			for _, target := range []int{7, 0, -1, most, least} {
				want := alone(of(6, target, one.since, plainAdd(one.since, casts)), one.next)
				checkBegun(t, fmt.Sprintf("%s, Cast %d", one.name, casts), none(one.wait), some(6, casts), target, one.now, want)
			}
		}
	}
	busy := []struct {
		name      string
		wait, now int
	}{
		{"above by Window and one", 50, 47}, {"above by four", 50, 46}, {"far above", 50, 0}, {"nothing, below 0", 0, -3}, {"below 0", -50, -53}, {"through 0", 1, -2}, {"most, above by Window and one", most, most - 3}, {"most less one, above by Window and one", most - 1, most - 4},
		{"above by Window and one at least", least + 3, least}, {"0 at least", 0, least}, {"-1 at least", -1, least}, {"most at least", most, least}, {"most at 0", most, 0}, {"1 at least", 1, least}, {"a Wait that would be cut", 1<<32 + 3, 3},
	}
	for _, one := range busy {
		for _, casts := range []int{0, 4, most} {
			checkRefused(t, one.name, none(one.wait), some(6, casts), 7, one.now, api.ErrBusy)
		}
	}
}

// TestP17_2BeginByCast is of Castings without casts, by the ends of the new
// ones.
func TestP17_2BeginByCast(t *testing.T) {
	for _, one := range []struct {
		name              string
		casts, now, until int
	}{
		{"0", 0, 50, 50}, {"1", 1, 50, 51}, {"5", 5, 50, 55}, {"0 below 0", 0, -50, -50}, {"5 through 0", 5, -3, 2}, {"most at 0", most, 0, most}, {"most at 1", most, 1, most}, {"most at 50", most, 50, most}, {"most at -1", most, -1, most - 1}, {"most at -50", most, -50, most - 50}, {"most less one at 1", most - 1, 1, most}, {"most less one at 0", most - 1, 0, most - 1},
		{"most at least", most, least, -1}, {"0 at least", 0, least, least}, {"0 at most", 0, most, most}, {"1 at most", 1, most, most}, {"most at most", most, most, most}, {"1 just ahead of most", 1, most - 1, most}, {"5 that runs over by one", 5, most - 4, most}, {"5 that meets the end", 5, most - 5, most}, {"5 that ends one ahead", 5, most - 6, most - 1}, {"1<<32", 1 << 32, 50, 1<<32 + 50},
	} {
		checkBegun(t, one.name, none(least), some(6, one.casts), 7, one.now, alone(of(6, 7, one.now, one.until), plainAdd(one.now, 3)))
		checkBegun(t, one.name+", behind a cast", alone(of(3, 9, least, one.now), least), some(6, one.casts), 7, one.now, both(of(3, 9, least, one.now), of(6, 7, one.now, one.until), least))
		if one.now > least+2 {
			checkBegun(t, one.name+", where one waits", none(one.now), some(6, one.casts), 7, one.now-2, alone(of(6, 7, one.now, one.until), plainAdd(one.now, 3)))
			checkBegun(t, one.name+", ahead of a cast's end", alone(of(3, 9, least, one.now), least), some(6, one.casts), 7, one.now-2, both(of(3, 9, least, one.now), of(6, 7, one.now, one.until), least))
		}
	}
}

// TestP17_2BeginBehind is of Castings with a first cast, and no other: which
// it is and what Wait is stays as it was.
func TestP17_2BeginBehind(t *testing.T) {
	cases := []struct {
		name              string
		since, until, now int
		wait              int
	}{
		{"Until above now by Window", 40, 50, 48, 43}, {"above by one", 40, 50, 49, 43}, {"just at now", 40, 50, 50, 43}, {"one below now", 40, 50, 51, 43}, {"far below now", 40, 50, 500, 43}, {"at most", 40, 50, most, 43},
		{"Until just at Wait", 40, 50, 49, 50}, {"one above Wait", 40, 50, 49, 49}, {"far above Wait", 40, 50, 49, -50}, {"above a Wait of least", 40, 50, 49, least}, {"at Wait, above now by Window", 40, 50, 48, 50}, {"a Wait above now", 40, 50, 48, 49}, {"a Wait ahead of Since", 40, 50, 50, 39},
		{"no length", 50, 50, 50, 50}, {"no length, below now", 50, 50, 60, 43}, {"of length 1", 49, 50, 50, 50}, {"below 0", -60, -50, -52, -57}, {"till 0", -9, 0, -2, -6}, {"from 0 on", 0, 1, 0, 0}, {"a Wait of 0 and an end of 0", -9, 0, 5, 0},
		{"till most, at most", 40, most, most, 43}, {"till most, by one", 40, most, most - 1, 43}, {"till most, by Window", 40, most, most - 2, 43}, {"till most, Wait too", 40, most, most - 2, most}, {"till most less one, by Window", 40, most - 1, most - 3, 43}, {"from most on", most, most, most, most},
		{"till least", least, least, least, least}, {"till least and Window", least, least + 2, least, least}, {"till least and Window, Wait too", least, least + 2, least, least + 2}, {"till least, at most", least, least, most, least}, {"an end that would be cut", 40, 1<<32 + 50, 1<<32 + 48, 43},
	}
	for _, one := range cases {
		now := of(3, 9, one.since, one.until)
		for _, casts := range []int{0, 1, 5, api.MaxAmount, most - 1, most} {
			for _, target := range []int{7, 0, -1, most, least} {
				want := both(now, of(6, target, one.until, plainAdd(one.until, casts)), one.wait)
				checkBegun(t, fmt.Sprintf("%s, Cast %d", one.name, casts), alone(now, one.wait), some(6, casts), target, one.now, want)
			}
		}
		checkBegun(t, one.name+", the same ability", alone(now, one.wait), some(3, 0), 9, one.now, both(now, of(3, 9, one.until, one.until), one.wait))
	}
}

func TestP17_2BeginBehindBusy(t *testing.T) {
	now := of(3, 9, 40, 50)
	next := of(4, 8, 50, 50)
	for _, one := range []struct {
		name string
		s    api.Casting
		now  int
	}{
		{"Next is there, ahead", both(now, next, 43), 49}, {"Next is there, at Now's end", both(now, next, 43), 50}, {"Next is there, behind", both(now, next, 43), 90}, {"a longer Next", both(now, of(4, 8, 50, 70), 43), 50}, {"a Next of the same ability", both(now, of(6, 7, 50, 54), 43), 50},
		{"Until above now by Window and one", alone(now, 43), 47}, {"above by four", alone(now, 43), 46}, {"just begun", alone(now, 43), 40}, {"ahead of its beginning", alone(now, 43), 20}, {"long ahead", alone(now, 43), least}, {"at 0", alone(now, 43), 0}, {"just at Wait", alone(now, 43), 43}, {"below 0", alone(of(3, 9, -60, -50), -57), -53}, {"through 0", alone(of(3, 9, -60, 1), -57), -2},
		{"Until one below Wait", alone(now, 51), 50}, {"below Wait, behind it", alone(now, 51), 51}, {"below Wait, long behind it", alone(now, 51), 500}, {"below Wait, in its Window", alone(now, 51), 49}, {"far below Wait", alone(now, most), 50}, {"far below Wait, at most", alone(now, most), most}, {"of no length", alone(of(3, 9, 50, 50), 53), 50}, {"of no length, behind Wait", alone(of(3, 9, 50, 50), 53), 53}, {"of length 2", alone(of(3, 9, 48, 50), 51), 50}, {"below 0, below Wait", alone(of(3, 9, -60, -50), -49), -50}, {"till 0, below Wait", alone(of(3, 9, -60, 0), 1), 0},
		{"till most, by Window and one", alone(of(3, 9, 40, most), 43), most - 3}, {"till most, at 0", alone(of(3, 9, 40, most), 43), 0}, {"till most, at least", alone(of(3, 9, 40, most), 43), least}, {"till most less one, below Wait", alone(of(3, 9, 40, most-1), most), most}, {"till least and Window and one", alone(of(3, 9, least, least+3), least), least}, {"till least, below Wait", alone(of(3, 9, least, least), least+1), least}, {"till 0, at least", alone(of(3, 9, least, 0), least), least}, {"an end that would be cut", alone(of(3, 9, 40, 1<<32+50), 43), 50},
		{"Next is there, and Until above Window", both(now, next, 43), 47}, {"Next is there, and Until below Wait", both(now, next, 51), 50}, {"Until above Window, and below Wait", alone(now, 51), 47}, {"all three", both(now, next, 51), 47}, {"all three, far", both(now, next, most), least},
	} {
		for _, casts := range []int{0, 1, 4, most} {
			checkRefused(t, fmt.Sprintf("%s, Cast %d", one.name, casts), one.s, some(6, casts), 7, one.now, api.ErrBusy)
		}
	}
}

func TestP17_2BeginAsTold(t *testing.T) {
	many := map[string]int{}
	check := func(s api.Casting, a api.Ability, target, now int) {
		t.Helper()
		made, err := cast.Begin(s, a, target, now)
		want, wantErr := plainBegin(s, a, target, now)
		if made != want || err != wantErr {
			t.Fatalf("%+v, Id %d, Cast %d, at %d at %d:\n%+v, %d, not\n%+v, %d", s, a.Id, a.Cast, target, now, made, err, want, wantErr)
		}
		many[fmt.Sprint(wantErr, s.Now.Ability != 0)]++
	}
	checkAsTold(t, 2, func(s api.Casting, a api.Ability, now int) { check(s, a, now, now) })
	for _, s := range atTheEnds()[:3000] {
		for _, n := range numbers() {
			check(s, some(n, 3), 9, s.Wait)
			check(s, some(2, n), n, s.Now.Until)
		}
	}
	for _, told := range []string{"0 true", "0 false", "1 true", "1 false", "7 true", "7 false"} {
		if many[told] < 2000 {
			t.Errorf("too few of a sort: %v", many)
		}
	}
}

// checkStepped holds that Step answers that Casting, and that this is done.
func checkStepped(t *testing.T, name string, s api.Casting, now int, want api.Casting, done ...api.Cast) {
	t.Helper()
	if made, told := cast.Step(s, now); made != want || !slices.Equal(told, done) {
		t.Errorf("%s: %+v, %+v, not %+v, %+v", name, made, told, want, done)
	}
}

func TestP17_3StepTurnsNothing(t *testing.T) {
	now := of(3, 9, 10, 15)
	for _, one := range []struct {
		name string
		s    api.Casting
		now  int
	}{
		{"nothing at 0", api.Casting{}, 0}, {"nothing at most", none(7), most}, {"nothing at least", none(7), least}, {"a Wait above now", none(50), 5}, {"a Wait at now", none(50), 50},
		{"Until one above now", alone(now, 13), 14}, {"Until above now by Window", alone(now, 13), 13}, {"ahead of its beginning", alone(now, 13), 5}, {"at least", alone(now, 13), least}, {"at 0", alone(now, 13), 0}, {"below 0", alone(of(3, 9, -20, -5), -17), -6}, {"till 0", alone(of(3, 9, -20, 0), -17), -1}, {"till most", alone(of(3, 9, 10, most), 13), most - 1}, {"from most on", alone(of(3, 9, most, most), most), most - 1}, {"till least and one", alone(of(3, 9, least, least+1), 13), least}, {"till most, at least", alone(of(3, 9, 10, most), 13), least}, {"no length, ahead", alone(of(3, 9, 15, 15), 18), 14}, {"an end that would be cut", alone(of(3, 9, 10, 1<<32), 13), 50},
		{"both, Until one above now", both(now, of(4, 8, 15, 20), 13), 14}, {"both, another Wait", both(now, of(4, 8, 15, 20), 77), 14}, {"both, Next of no length", both(now, of(4, 8, 15, 15), 13), 14}, {"Next that ends ahead of Now", both(now, of(4, 8, 2, 5), 13), 14}, {"a Now of -1", alone(of(-1, 9, 10, 15), 13), 14}, {"a Next of -1", both(now, of(-1, 9, 10, 11), 13), 14}, {"a Next of no ability", both(now, of(0, 9, 10, 11), 13), 14},
		{"Next alone, ahead", behind(of(4, 8, 15, 20), 13), 14}, {"Next alone, at its end", behind(of(4, 8, 15, 20), 13), 20}, {"Next alone, behind it", behind(of(4, 8, 15, 20), 13), 50}, {"Next alone, at most", behind(of(4, 8, 15, 20), 13), most}, {"Next alone of -1", behind(of(-1, 8, 15, 20), 13), 50}, {"Next alone at 0", behind(of(4, 0, 0, 0), 0), 0},
		{"a Now of no ability", alone(of(0, 9, 10, 15), 13), 50}, {"a Now of no ability, but a Target", alone(of(0, 9, 0, 0), 13), 50}, {"of no ability, but an Until", alone(of(0, 0, 0, 15), 13), 50}, {"a Now of no ability ahead of Next", both(of(0, 9, 10, 15), of(4, 8, 15, 20), 13), 50}, {"neither of an ability", both(of(0, 9, 10, 15), of(0, 8, 15, 20), 13), 50},
	} {
		checkStepped(t, one.name, one.s, one.now, one.s)
		if _, done := cast.Step(one.s, one.now); len(done) != 0 {
			t.Errorf("%s: %v", one.name, done)
		}
	}
}

func TestP17_3StepByCases(t *testing.T) {
	now, next := of(3, 9, 10, 15), of(4, 8, 15, 20)
	for _, at := range []int{15, 16, 17, 19, 20, 21, 500, most} {
		checkStepped(t, fmt.Sprintf("Now alone at %d", at), alone(now, 13), at, none(13), now)
		checkStepped(t, fmt.Sprintf("Now alone at %d, a later Wait", at), alone(now, 99), at, none(99), now)
		checkStepped(t, fmt.Sprintf("Now alone at %d, a Wait of most", at), alone(now, most), at, none(most), now)
		if at < 20 {
			checkStepped(t, fmt.Sprintf("the first of both at %d", at), both(now, next, 13), at, alone(next, 18), now)
			checkStepped(t, fmt.Sprintf("the first of both at %d, a later Wait", at), both(now, next, 99), at, alone(next, 18), now)
			checkStepped(t, fmt.Sprintf("the first of both at %d, a Wait of most", at), both(now, next, most), at, alone(next, 18), now)
			checkStepped(t, fmt.Sprintf("the first of both at %d, a Wait of least", at), both(now, next, least), at, alone(next, 18), now)
		} else {
			checkStepped(t, fmt.Sprintf("both at %d", at), both(now, next, 13), at, none(18), now, next)
			checkStepped(t, fmt.Sprintf("both at %d, a later Wait", at), both(now, next, 99), at, none(18), now, next)
			checkStepped(t, fmt.Sprintf("both at %d, a Wait below 0", at), both(now, next, -99), at, none(18), now, next)
		}
		checkStepped(t, fmt.Sprintf("Next of no length, at %d", at), both(now, of(4, 8, 15, 15), 13), at, none(18), now, of(4, 8, 15, 15))
		checkStepped(t, fmt.Sprintf("both of no length, at %d", at), both(of(3, 9, 15, 15), of(4, 8, 15, 15), 18), at, none(18), of(3, 9, 15, 15), of(4, 8, 15, 15))
		checkStepped(t, fmt.Sprintf("both alike, at %d", at), both(of(3, 9, 15, 15), of(3, 9, 15, 15), 15), at, none(18), of(3, 9, 15, 15), of(3, 9, 15, 15))
	}
	checkStepped(t, "Now of no length", alone(of(3, 9, 15, 15), 18), 15, none(18), of(3, 9, 15, 15))
	checkStepped(t, "below 0", both(of(3, 9, -20, -15), of(4, 8, -15, -10), -17), -15, alone(of(4, 8, -15, -10), -12), of(3, 9, -20, -15))
	checkStepped(t, "both below 0", both(of(3, 9, -20, -15), of(4, 8, -15, -10), -17), -10, none(-12), of(3, 9, -20, -15), of(4, 8, -15, -10))
	checkStepped(t, "till 0", both(of(3, 9, -20, 0), of(4, 8, 0, 1), -17), 0, alone(of(4, 8, 0, 1), 3), of(3, 9, -20, 0))
	checkStepped(t, "at least", alone(of(3, 9, least, least), 5), least, none(5), of(3, 9, least, least))
	checkStepped(t, "from least on", both(of(3, 9, least, least), of(4, 8, least, most), 5), least, alone(of(4, 8, least, most), least+3), of(3, 9, least, least))
	checkStepped(t, "both at least", both(of(3, 9, least, least), of(4, 8, least, least), 5), least, none(least+3), of(3, 9, least, least), of(4, 8, least, least))
	checkStepped(t, "till most", alone(of(3, 9, 10, most), 13), most, none(13), of(3, 9, 10, most))
	checkStepped(t, "all ends that would be cut", both(of(3, 9, 10, 1<<32), of(4, 8, 1<<32, 2<<32), 13), 1<<32, alone(of(4, 8, 1<<32, 2<<32), 1<<32+3), of(3, 9, 10, 1<<32))
}

// TestP17_3StepPauseRunsOver is of a Next that begins near the end of numbers.
func TestP17_3StepPauseRunsOver(t *testing.T) {
	for since, wait := range map[int]int{most: most, most - 1: most, most - 2: most, most - 3: most, most - 4: most - 1, most - 5: most - 2, -1: 2, least: least + 3} {
		first := of(3, 9, least, since)
		checkStepped(t, fmt.Sprintf("Next from %d on, of no length", since), both(first, of(4, 8, since, since), 13), since, none(wait), first, of(4, 8, since, since))
		checkStepped(t, fmt.Sprintf("Next from %d on, at most", since), both(first, of(4, 8, since, most), 13), most, none(wait), first, of(4, 8, since, most))
		if since < most {
			checkStepped(t, fmt.Sprintf("Next from %d on", since), both(first, of(4, 8, since, most), 13), since, alone(of(4, 8, since, most), wait), first)
		}
	}
}

// TestP17_3StepWrong is of Castings that are not right.
func TestP17_3StepWrong(t *testing.T) {
	now := of(3, 9, 10, 15)
	for _, one := range []struct {
		name string
		next api.Cast
		left api.Casting
		both bool
	}{
		{"a Next one ahead of Now's end, later", of(4, 8, 14, 20), alone(of(4, 8, 14, 20), 17), false}, {"a Next one behind it", of(4, 8, 16, 20), alone(of(4, 8, 16, 20), 19), false}, {"a Next that is still to come", of(4, 8, 90, 95), alone(of(4, 8, 90, 95), 93), false}, {"a Next ahead of all", of(4, 8, -20, -10), none(-17), true}, {"a Next that ended ahead of Now's end", of(4, 8, 2, 5), none(5), true}, {"one that ends at Now's end", of(4, 8, 2, 15), none(5), true}, {"one that ends one behind it", of(4, 8, 2, 16), alone(of(4, 8, 2, 16), 5), false},
		{"a Next that ends ahead of its beginning", of(4, 8, 20, 12), none(23), true}, {"a Next from most to least", of(4, 8, most, least), none(most), true}, {"a Next of -1", of(-1, 8, 15, 20), alone(of(-1, 8, 15, 20), 18), false}, {"a Next of -1 that has ended", of(-1, 8, 15, 15), none(18), true}, {"a Next of least", of(least, 8, 15, 20), alone(of(least, 8, 15, 20), 18), false}, {"a Next of 1<<32", of(1<<32, 8, 15, 15), none(18), true}, {"a Next of 1 and no other number", of(1, 0, 0, 0), none(3), true},
		{"a Next of no ability", of(0, 8, 15, 20), alone(of(0, 8, 15, 20), 13), false}, {"one that would have ended", of(0, 8, 2, 5), alone(of(0, 8, 2, 5), 13), false}, {"a Target alone", of(0, 8, 0, 0), alone(of(0, 8, 0, 0), 13), false}, {"a Since alone", of(0, 0, 8, 0), alone(of(0, 0, 8, 0), 13), false}, {"an Until alone", of(0, 0, 0, 8), alone(of(0, 0, 0, 8), 13), false},
	} {
		done := []api.Cast{now}
		if one.both {
			done = append(done, one.next)
		}
		checkStepped(t, one.name, both(now, one.next, 13), 15, one.left, done...)
	}
	checkStepped(t, "a Now of -1", alone(of(-1, 9, 10, 15), 13), 15, none(13), of(-1, 9, 10, 15))
	checkStepped(t, "a Now of least ahead of Next", both(of(least, 9, 10, 15), of(4, 8, 15, 20), 13), 15, alone(of(4, 8, 15, 20), 18), of(least, 9, 10, 15))
	checkStepped(t, "a Now that ends ahead of its beginning", alone(of(3, 9, 50, 10), 13), 10, none(13), of(3, 9, 50, 10))
	checkStepped(t, "a Now from most to least", alone(of(3, 9, most, least), 13), least, none(13), of(3, 9, most, least))
	checkStepped(t, "a Now of 1 and no other number", alone(of(1, 0, 0, 0), 13), 0, none(13), of(1, 0, 0, 0))
}

func TestP17_3StepAsTold(t *testing.T) {
	many := map[int]int{}
	checkAsTold(t, 3, func(s api.Casting, _ api.Ability, now int) {
		want, done := plainStep(s, now)
		checkStepped(t, fmt.Sprintf("%+v at %d", s, now), s, now, want, done...)
		if t.Failed() {
			t.FailNow()
		}
		many[len(done)]++
	})
	if min(many[0], many[1], many[2]) < 5000 || len(many) != 3 {
		t.Errorf("too few of a sort: %v", many)
	}
}

func TestP17_3StopByCases(t *testing.T) {
	now, next := of(3, 9, 10, 15), of(4, 8, 15, 20)
	for _, one := range []struct {
		name      string
		now, next api.Cast
		want      int
	}{
		{"none", api.Cast{}, api.Cast{}, 0}, {"Now alone", now, api.Cast{}, 1}, {"both", now, next, 2}, {"Next alone", api.Cast{}, next, 1}, {"both alike", now, now, 2}, {"both of no length", of(3, 9, 10, 10), of(4, 8, 10, 10), 2},
		{"Now of 1 and no other number", of(1, 0, 0, 0), api.Cast{}, 1}, {"Next of 1 and no other number", now, of(1, 0, 0, 0), 2}, {"Now of -1", of(-1, 9, 10, 15), api.Cast{}, 1}, {"Next of -1", now, of(-1, 8, 15, 20), 2}, {"both of least", of(least, 9, 10, 15), of(least, 8, 15, 20), 2}, {"both of most", of(most, 9, 10, 15), of(most, 8, 15, 20), 2}, {"both of 1<<32", of(1<<32, 9, 10, 15), of(1<<32, 8, 15, 20), 2}, {"a Next at another time", now, of(4, 8, 16, 20), 2}, {"both end ahead of their beginnings", of(3, 9, 10, 5), of(4, 8, 5, 1), 2},
		{"Now of no ability", of(0, 9, 10, 15), api.Cast{}, 0}, {"Next of no ability", now, of(0, 8, 15, 20), 1}, {"Now of no ability ahead of Next", of(0, 9, 10, 15), next, 1}, {"neither of an ability", of(0, 9, 10, 15), of(0, 8, 15, 20), 0}, {"a Target alone", of(0, 9, 0, 0), of(0, 8, 0, 0), 0}, {"a Since alone", of(0, 0, 9, 0), of(0, 0, 8, 0), 0}, {"an Until alone", of(0, 0, 0, 9), of(0, 0, 0, 8), 0},
	} {
		for _, wait := range append(numbers(), 12, 14, 20) {
			if left, many := cast.Stop(both(one.now, one.next, wait)); left != none(wait) || many != one.want {
				t.Errorf("%s, Wait %d: %+v, %d, not %d", one.name, wait, left, many, one.want)
			}
		}
	}
}

func TestP17_3StopAsTold(t *testing.T) {
	checkAsTold(t, 4, func(s api.Casting, _ api.Ability, _ int) {
		left, many := cast.Stop(s)
		if want, wantMany := plainStop(s); left != want || many != wantMany {
			t.Fatalf("%+v: %+v, %d, not %+v, %d", s, left, many, want, wantMany)
		}
	})
}

// castings are Castings by cases, right ones and others.
func castings() []api.Casting {
	now, next := of(3, 9, 10, 15), of(4, 8, 15, 20)
	list := []api.Casting{none(0), none(13), alone(now, 13), alone(now, 99), both(now, next, 13), both(now, of(4, 8, 15, 15), 13), both(of(3, 9, 10, 10), of(4, 8, 10, 10), 10)}
	for _, s := range wrongs() {
		list = append(list, s)
	}
	source := rand.New(rand.NewSource(5))
	for range 200 {
		list = append(list, newLuck(source).any())
	}
	return list
}

// TestP17_4NothingIsChanged is of what is handed in, the ability's effects and
// their spare room too.
func TestP17_4NothingIsChanged(t *testing.T) {
	a := some(6, 4)
	a.Effects = append(a.Effects, api.Effect{Kind: 771, Amount: 772, Aura: 773}, api.Effect{Kind: 774})[:1]
	want := fmt.Sprint(a, a.Effects[:3])
	for _, s := range castings() {
		before := s
		for now := 8; now <= 22; now++ {
			cast.Begin(s, a, 7, now)
			cast.Step(s, now)
			cast.Free(s, now)
		}
		cast.Right(s)
		cast.Stop(s)
		cast.Done(s)
		if s != before {
			t.Fatalf("%+v became %+v", before, s)
		}
		if got := fmt.Sprint(a, a.Effects[:3]); got != want {
			t.Fatalf("%s became %s", want, got)
		}
	}
}

// TestP17_4NothingIsKept writes over the ability that was handed in.
func TestP17_4NothingIsKept(t *testing.T) {
	for _, s := range castings() {
		a := some(6, 4)
		want, wantErr := plainBegin(s, a, 7, 14)
		made, err := cast.Begin(s, a, 7, 14)
		a.Effects[0] = api.Effect{Kind: -777, Amount: -777, Aura: -777}
		a.Id, a.Cast = -777, -777
		if made != want || err != wantErr {
			t.Fatalf("%+v: %+v, %d by now", s, made, err)
		}
		checkRefused(t, "an ability that was written over", s, a, 7, 14, api.ErrArg)
	}
}

// spoil writes over all casts, those of the spare room too.
func spoil(l []api.Cast) {
	l = l[:cap(l)]
	for i := range l {
		l[i] = of(-777, -777, -777, -777)
	}
}

// TestP17_4RowsAreNewMemory writes over what Step told as done, and lets it
// grow, and looks at what other Steps told, ahead of that and behind it.
func TestP17_4RowsAreNewMemory(t *testing.T) {
	for _, s := range castings() {
		for now := 8; now <= 22; now++ {
			left, done := plainStep(s, now)
			_, first := cast.Step(s, now)
			_, second := cast.Step(s, now)
			spoil(first)
			if !slices.Equal(second, done) {
				t.Fatalf("%+v at %d: %+v by now, not %+v", s, now, second, done)
			}
			_, third := cast.Step(s, now)
			longer := append(second, of(-778, 1, 1, 1))
			also := append(third, of(-779, 2, 2, 2))
			if !slices.Equal(longer, append(slices.Clone(done), of(-778, 1, 1, 1))) || !slices.Equal(also, append(slices.Clone(done), of(-779, 2, 2, 2))) {
				t.Fatalf("%+v at %d: %+v and %+v, when both have grown behind %+v", s, now, longer, also, done)
			}
			spoil(longer)
			spoil(second)
			if !slices.Equal(third, done) {
				t.Fatalf("%+v at %d: %+v by now, not %+v", s, now, third, done)
			}
			checkStepped(t, "a later Step", s, now, left, done...)
		}
	}
}

// walk is one that casts at rising times: all that began, in its order, and
// how many of it have ended.
type walk struct {
	source *rand.Rand
	stops  bool
	s      api.Casting
	now    int
	begun  []api.Cast
	ended  int
	many   map[string]int
}

// newWalk begins with a Casting without casts.
func newWalk(seed int64, stops bool, many map[string]int) *walk {
	w := &walk{source: rand.New(rand.NewSource(seed)), stops: stops, now: int(seed)%60 - 30, many: many}
	w.s = none(plainAdd(w.now, w.source.Intn(9)-5))
	return w
}

// turn lets some time go by, or none, and does one of all that may be done.
func (w *walk) turn(t *testing.T) {
	t.Helper()
	w.now += w.source.Intn(3)
	if w.source.Intn(30) == 0 {
		w.now += 20
	}
	switch w.source.Intn(7) {
	case 0, 1, 2:
		w.step(t)
	case 3:
		if w.stops && w.source.Intn(2) == 0 {
			w.stop(t)
		}
	default:
		w.begin(t)
	}
	if !cast.Right(w.s) || !plainRight(w.s) {
		t.Fatalf("%+v is not right any more", w.s)
	}
	if !slices.Equal(plainThere(w.s), w.begun[w.ended:]) {
		t.Fatalf("%+v goes on, not %+v", w.s, w.begun[w.ended:])
	}
}

// begin begins a cast with a target of its own, mostly a short one.
func (w *walk) begin(t *testing.T) {
	t.Helper()
	a := some(1+w.source.Intn(4), []int{0, 0, 1, 2, 3, 4, 5, 11}[w.source.Intn(8)])
	target := len(w.begun) + 1
	made, err := cast.Begin(w.s, a, target, w.now)
	w.many[fmt.Sprint("begun ", err)]++
	if err != api.OK {
		return
	}
	list := plainThere(made)
	if len(list) == 0 || list[len(list)-1].Target != target || list[len(list)-1].Ability != a.Id {
		t.Fatalf("the cast %d that began is not last in %+v", target, made)
	}
	w.s, w.begun = made, append(w.begun, list[len(list)-1])
}

// step holds that all is done that ends by now, and nothing else, each once
// and in order.
func (w *walk) step(t *testing.T) {
	t.Helper()
	made, done := cast.Step(w.s, w.now)
	want := 0
	for _, c := range w.begun[w.ended:] {
		if c.Until <= w.now {
			want++
		}
	}
	if !slices.Equal(done, w.begun[w.ended:w.ended+want]) {
		t.Fatalf("at %d %+v are done of %+v", w.now, done, w.begun[w.ended:])
	}
	w.many[fmt.Sprint("done ", want)]++
	w.s, w.ended = made, w.ended+want
}

// stop holds that all that has not ended ends by it.
func (w *walk) stop(t *testing.T) {
	t.Helper()
	made, many := cast.Stop(w.s)
	if many != len(w.begun)-w.ended {
		t.Fatalf("%d are stopped of %+v", many, w.begun[w.ended:])
	}
	w.many[fmt.Sprint("stopped ", many)]++
	w.s, w.ended = made, len(w.begun)
}

// checkMany holds that each of these came about often enough.
func checkMany(t *testing.T, many map[string]int, names ...string) {
	t.Helper()
	for _, name := range names {
		if many[name] < 500 {
			t.Errorf("%s: too few: %v", name, many)
		}
	}
}

// TestP17_5DoneOnceInOrder holds in each turn that a right Casting stays
// right, too.
func TestP17_5DoneOnceInOrder(t *testing.T) {
	many := map[string]int{}
	for seed := range int64(400) {
		w := newWalk(seed, true, many)
		for range 300 {
			w.turn(t)
		}
		w.now += 100
		w.step(t)
		if w.ended != len(w.begun) || len(plainThere(w.s)) != 0 {
			t.Fatalf("%+v is left of %+v", w.s, w.begun[w.ended:])
		}
	}
	checkMany(t, many, "begun 0", "begun 7", "done 0", "done 1", "done 2", "stopped 0", "stopped 1", "stopped 2")
}

// TestP17_5FirstStep steps at each time, and holds that a cast is done just at
// its Until, and never again.
func TestP17_5FirstStep(t *testing.T) {
	for casts := range 8 {
		for ahead := range 3 {
			for behindIt := range 8 {
				first, err := cast.Begin(none(50), some(1, 3+casts), 1, 50-ahead)
				if err != api.OK || first.Now.Since != 50 || first.Now.Until != 53+casts {
					t.Fatalf("%+v, %d", first, err)
				}
				s, err := cast.Begin(first, some(2, behindIt), 2, 51+casts)
				if err != api.OK {
					t.Fatalf("%+v, %d", s, err)
				}
				told := map[int]int{}
				for now := 50 - ahead; now < 90; now++ {
					left, done := cast.Step(s, now)
					for _, c := range done {
						told[c.Target] += now
					}
					s = left
				}
				if told[1] != 53+casts || told[2] != 53+casts+behindIt || len(told) != 2 || s != none(56+casts) {
					t.Fatalf("Cast %d and %d: %v, %+v", 3+casts, behindIt, told, s)
				}
			}
		}
	}
}

// TestP17_5RightStaysRightAtOnce is of any right Casting, at any time.
func TestP17_5RightStaysRightAtOnce(t *testing.T) {
	source, begun := rand.New(rand.NewSource(6)), 0
	for range 100000 {
		l := newLuck(source)
		s, a, now := l.right(), l.ability(), l.time()
		made, err := cast.Begin(s, a, l.time(), now)
		if err == api.OK {
			begun++
		}
		stopped, _ := cast.Stop(s)
		stepped, _ := cast.Step(s, now)
		for _, m := range []api.Casting{s, made, stopped, stepped} {
			if !cast.Right(m) || !plainRight(m) {
				t.Fatalf("%+v, %+v at %d: %+v", s, a, now, m)
			}
		}
	}
	if begun < 10000 {
		t.Errorf("only %d began", begun)
	}
}

// checkPause holds that two that begin one behind the other are Pause ticks
// apart.
func checkPause(t *testing.T, begun []api.Cast) {
	t.Helper()
	for i := 1; i < len(begun); i++ {
		if begun[i].Since-begun[i-1].Since < api.Pause {
			t.Fatalf("%+v begins too early behind %+v", begun[i], begun[i-1])
		}
	}
}

func TestP17_6PauseBetweenBeginnings(t *testing.T) {
	many := map[string]int{}
	for seed := range int64(400) {
		w := newWalk(seed, false, many)
		for range 300 {
			w.turn(t)
		}
		checkPause(t, w.begun)
		for i := 1; i < len(w.begun); i++ {
			if w.begun[i].Since-w.begun[i-1].Since == api.Pause {
				many["just Pause"]++
			}
			if w.begun[i-1].Until-w.begun[i-1].Since < api.Pause {
				many["a short cast"]++
			}
			if w.begun[i-1].Until == w.begun[i-1].Since {
				many["no length"]++
			}
			if w.begun[i].Since == w.begun[i-1].Until {
				many["one just behind the other"]++
			}
		}
	}
	checkMany(t, many, "just Pause", "a short cast", "no length", "one just behind the other")
}

// TestP17_6PauseWhereOneStops is of those that came to be Now: what was to
// come behind it and was stopped has not begun, where one steps at each time.
func TestP17_6PauseWhereOneStops(t *testing.T) {
	stopped := 0
	for seed := range int64(300) {
		w := newWalk(seed, true, map[string]int{})
		var begun []api.Cast
		came := func(c api.Cast) {
			if c.Ability != 0 && (len(begun) == 0 || begun[len(begun)-1] != c) {
				begun = append(begun, c)
			}
		}
		for range 300 {
			ended := w.ended
			w.step(t)
			for _, c := range w.begun[ended:w.ended] {
				came(c)
			}
			came(w.s.Now)
			if w.source.Intn(12) == 0 {
				stopped += len(plainThere(w.s))
				w.stop(t)
			}
			w.begin(t)
			came(w.s.Now)
			w.now++
		}
		checkPause(t, begun)
	}
	if stopped < 1000 {
		t.Errorf("only %d were stopped", stopped)
	}
}

func TestP17_Examples(t *testing.T) {
	a := api.Ability{Id: 7, Cast: 5}
	first, err := cast.Begin(api.Casting{}, a, 2, 10)
	if told := fmt.Sprint(first, err); told != "{{7 2 10 15} {0 0 0 0} 13} 0" {
		t.Error(told)
	}
	busy, err := cast.Begin(first, a, 2, 12)
	if told := fmt.Sprint(busy, err); told != "{{0 0 0 0} {0 0 0 0} 0} 7" {
		t.Error(told)
	}
	second, err := cast.Begin(first, a, 2, 13)
	if told := fmt.Sprint(second, err); told != "{{7 2 10 15} {7 2 15 20} 13} 0" {
		t.Error(told)
	}
	left, done := cast.Step(second, 20)
	if told := fmt.Sprint(left, done); told != "{{0 0 0 0} {0 0 0 0} 18} [{7 2 10 15} {7 2 15 20}]" {
		t.Error(told)
	}
}

// TestW2AsOften is of calls that are made twice, others between: they keep
// nothing.
func TestW2AsOften(t *testing.T) {
	source := rand.New(rand.NewSource(8))
	all := func(s api.Casting, a api.Ability, now int) string {
		made, err := cast.Begin(s, a, 7, now)
		left, many := cast.Stop(s)
		stepped, done := cast.Step(s, now)
		return fmt.Sprint(made, err, left, many, stepped, done, cast.Right(s), cast.Free(s, now), cast.Done(s))
	}
	for range 10000 {
		l := newLuck(source)
		s, a, now := l.any(), l.ability(), l.time()
		first := all(s, a, now)
		all(l.any(), l.ability(), l.time())
		if again := all(s, a, now); again != first {
			t.Fatalf("%+v at %d: %s, and then %s", s, now, first, again)
		}
	}
}
