package cool_test

import (
	"fmt"
	"math/big"
	"math/rand"
	"slices"
	"testing"

	"barrow/api"
	"barrow/cool"
)

const (
	most  = api.MaxInt
	least = api.MinInt
)

// of is a Cool of that ability.
func of(id int, back ...int) api.Cool { return api.Cool{Ability: id, Back: back} }

// row spells a row short.
func row(l ...api.Cool) []api.Cool { return l }

// some is an ability of that Id, with so many charges and such a Cool. What
// else it has must not matter.
func some(id, charges, cools int) api.Ability {
	return api.Ability{Id: id, Cast: 3, Cool: cools, Charges: charges, Range: 8, Cost: 9, Sight: true, Effects: []api.Effect{{Kind: api.EffectHurt, Amount: 5}}}
}

// upTo answers n numbers that rise by one, from first on.
func upTo(n, first int) []int {
	back := make([]int, n)
	for i := range back {
		back[i] = first + i
	}
	return back
}

// alike answers a number n times.
func alike(n, number int) []int { return slices.Repeat([]int{number}, n) }

// numbers are small ones, the ends of numbers, and some that would run over
// into small ones.
func numbers() []int {
	return []int{0, 1, -1, 2, 3, 5, 7, 10, 99, 100, 101, 1000, -1000, 1 << 32, 1<<32 + 1, -1 << 32, 1 << 62, -1 << 62, most, most - 1, most - 5, least, least + 1, least + 5}
}

// same holds a row without Cools for one that is nil, and likewise each Back.
func same(a, b []api.Cool) bool {
	return slices.EqualFunc(a, b, func(a, b api.Cool) bool { return a.Ability == b.Ability && slices.Equal(a.Back, b.Back) })
}

// deep answers the row in new memory.
func deep(l []api.Cool) []api.Cool {
	var made []api.Cool
	for _, c := range l {
		made = append(made, of(c.Ability, slices.Clone(c.Back)...))
	}
	return made
}

// plainAdd adds as numbers of any length, and then holds the sum.
func plainAdd(a, b int) int {
	sum := new(big.Int).Add(big.NewInt(int64(a)), big.NewInt(int64(b)))
	switch {
	case sum.Cmp(big.NewInt(most)) > 0:
		return most
	case sum.Cmp(big.NewInt(least)) < 0:
		return least
	}
	return int(sum.Int64())
}

// plainRight holds each one against each one behind it.
func plainRight(l []api.Cool) bool {
	ok := true
	for i, c := range l {
		ok = ok && c.Ability >= 1 && len(c.Back) >= 1 && len(c.Back) <= 100
		for _, d := range l[i+1:] {
			ok = ok && c.Ability < d.Ability
		}
		for j := 1; j < len(c.Back); j++ {
			ok = ok && c.Back[j-1] <= c.Back[j]
		}
	}
	return ok
}

func plainAway(l []api.Cool, id, now int) []int {
	var first *api.Cool
	for i := len(l) - 1; i >= 0; i-- {
		if l[i].Ability == id {
			first = &l[i]
		}
	}
	if first == nil {
		return nil
	}
	return slices.DeleteFunc(slices.Clone(first.Back), func(n int) bool { return n <= now })
}

func plainReady(l []api.Cool, a api.Ability, now int) int {
	if many := len(plainAway(l, a.Id, now)); a.Charges > many {
		return a.Charges - many
	}
	return 0
}

func plainUse(l []api.Cool, a api.Ability, now int) ([]api.Cool, bool) {
	back := plainAway(l, a.Id, now)
	if plainReady(l, a, now) == 0 || !plainRight(l) || a.Id < 1 || len(back) >= 100 {
		return deep(l), false
	}
	if a.Cool > 0 {
		behind := now
		if len(back) > 0 {
			behind = back[len(back)-1]
		}
		back = append(back, plainAdd(behind, a.Cool))
	}
	made := plainReset(l, a.Id)
	if len(back) > 0 {
		made = append(made, of(a.Id, back...))
	}
	slices.SortFunc(made, func(a, b api.Cool) int { return big.NewInt(int64(a.Ability)).Cmp(big.NewInt(int64(b.Ability))) })
	return made, true
}

func plainNext(l []api.Cool, a api.Ability, now int) int {
	if plainReady(l, a, now) > 0 {
		return now
	}
	if a.Charges <= 0 {
		return most
	}
	return plainAway(l, a.Id, now)[0]
}

func plainClean(l []api.Cool, now int) []api.Cool {
	made := deep(l)
	for i := range made {
		made[i].Back = slices.DeleteFunc(made[i].Back, func(n int) bool { return n <= now })
	}
	return slices.DeleteFunc(made, func(c api.Cool) bool { return len(c.Back) == 0 })
}

func plainReset(l []api.Cool, id int) []api.Cool {
	return slices.DeleteFunc(deep(l), func(c api.Cool) bool { return c.Ability == id })
}

// call is one of the calls that answer rows, at arguments of its own.
type call struct {
	name  string
	made  func(l []api.Cool) ([]api.Cool, bool)
	plain func(l []api.Cool) ([]api.Cool, bool)
}

func use(a api.Ability, now int) call {
	return call{fmt.Sprintf("Use %d (Charges %d, Cool %d) at %d", a.Id, a.Charges, a.Cool, now),
		func(l []api.Cool) ([]api.Cool, bool) { return cool.Use(l, a, now) },
		func(l []api.Cool) ([]api.Cool, bool) { return plainUse(l, a, now) }}
}

func clean(now int) call {
	return call{fmt.Sprintf("Clean at %d", now),
		func(l []api.Cool) ([]api.Cool, bool) { return cool.Clean(l, now), true },
		func(l []api.Cool) ([]api.Cool, bool) { return plainClean(l, now), true }}
}

func reset(id int) call {
	return call{fmt.Sprintf("Reset %d", id),
		func(l []api.Cool) ([]api.Cool, bool) { return cool.Reset(l, id), true },
		func(l []api.Cool) ([]api.Cool, bool) { return plainReset(l, id), true }}
}

// holds holds what the call answers to what is told of it.
func (one call) holds(t *testing.T, l []api.Cool) {
	t.Helper()
	made, ok := one.made(l)
	if want, wantOk := one.plain(l); !same(made, want) || ok != wantOk {
		t.Fatalf("%s of %v:\n%v, %v, not\n%v, %v", one.name, l, made, ok, want, wantOk)
	}
}

// drawnBack is some Back of up to n numbers; one that rises, if it is so
// asked.
func drawnBack(source *rand.Rand, n int, rises bool) []int {
	back := make([]int, source.Intn(n+1))
	for i := range back {
		back[i] = source.Intn(12) - 2
		if source.Intn(12) == 0 {
			back[i] = numbers()[source.Intn(len(numbers()))]
		}
	}
	if rises {
		slices.Sort(back)
	}
	return back
}

// drawnRight is some row that is right, of abilities of up to 9, and now and
// then one that is far off.
func drawnRight(source *rand.Rand) []api.Cool {
	var l []api.Cool
	for id := 1; id <= 9; id++ {
		if back := drawnBack(source, 5, true); len(back) > 0 && source.Intn(2) == 0 {
			l = append(l, of(id, back...))
		}
	}
	if source.Intn(4) == 0 {
		l = append(l, of(most-source.Intn(3), 1, 5))
	}
	return l
}

// drawn is some row: a right one, one that a turn of it made, or any.
func drawn(source *rand.Rand) []api.Cool {
	l := drawnRight(source)
	switch source.Intn(6) {
	case 0:
		source.Shuffle(len(l), func(i, j int) { l[i], l[j] = l[j], l[i] })
	case 1:
		for range source.Intn(4) {
			l = append(l, of(source.Intn(8)-1, drawnBack(source, 4, false)...))
		}
	case 2:
		if len(l) > 0 {
			at := source.Intn(len(l))
			l[at].Back = drawnBack(source, 6, false)
		}
	}
	return l
}

// drawnAbility is some ability, mostly one that a drawn row may have.
func drawnAbility(source *rand.Rand) api.Ability {
	a := some(source.Intn(11)-1, source.Intn(7)-1, source.Intn(7)-1)
	if source.Intn(10) == 0 {
		a.Id = numbers()[source.Intn(len(numbers()))]
	}
	if source.Intn(10) == 0 {
		a.Charges = numbers()[source.Intn(len(numbers()))]
	}
	if source.Intn(10) == 0 {
		a.Cool = numbers()[source.Intn(len(numbers()))]
	}
	return a
}

// drawnTime is some time, mostly one near what comes back in a drawn row.
func drawnTime(source *rand.Rand) int {
	if source.Intn(9) == 0 {
		return numbers()[source.Intn(len(numbers()))]
	}
	return source.Intn(15) - 4
}

// small are all rows of up to two Cools, of abilities from 0 to 2, each with
// up to two numbers from 0 to 2.
func small() [][]api.Cool {
	backs := [][]int{nil}
	for a := range 3 {
		backs = append(backs, []int{a})
		for b := range 3 {
			backs = append(backs, []int{a, b})
		}
	}
	var ones []api.Cool
	for id := range 3 {
		for _, back := range backs {
			ones = append(ones, of(id, back...))
		}
	}
	list := [][]api.Cool{nil}
	for _, one := range ones {
		list = append(list, row(one))
		for _, two := range ones {
			list = append(list, row(one, two))
		}
	}
	return list
}

// rows are rows by cases, right ones and others.
func rows() [][]api.Cool {
	source := rand.New(rand.NewSource(7))
	list := [][]api.Cool{
		nil, {}, row(api.Cool{}), row(of(0, 5)), row(of(-1, 5)), row(of(1)), row(api.Cool{Ability: 1, Back: []int{}}), row(of(3), of(1, 5), of(2)),
		row(of(2, 10)), row(of(2, 10, 20)), row(of(1, 4), of(2, 10, 20), of(5, 7, 7, 9)), row(of(1, 4, 5), of(3, 10), of(most, 8)),
		row(of(2, 20, 10)), row(of(2, 10, 3, 20)), row(of(2, 3, 10, 4, 20)), row(of(2, 5), of(2, 10, 20)), row(of(1, 20), of(2, 10), of(1, 5), of(1)),
		row(of(3, 5), of(2, 10), of(1, 20)), row(of(most, 5), of(least, 10), of(0, most)),
		row(of(1, least, least+1, -1, 0, 1, most-1, most)), row(of(2, alike(5, most)...)), row(of(2, alike(5, least)...)),
		row(of(2, upTo(99, 5)...)), row(of(2, upTo(100, 5)...)), row(of(2, upTo(101, 5)...)), row(of(1, 5), of(2, upTo(300, 5)...), of(3, 5)),
	}
	var long []api.Cool
	for i := range 60 {
		long = append(long, of(2*i+1, upTo(1+i%7, i)...))
	}
	list = append(list, long)
	for range 20 {
		list = append(list, drawn(source))
	}
	return list
}

func TestP16_1RightByCases(t *testing.T) {
	cases := []struct {
		name string
		l    []api.Cool
		want bool
	}{
		{"nil", nil, true}, {"none", []api.Cool{}, true}, {"one", row(of(1, 10)), true}, {"two", row(of(1, 10), of(2, 20)), true}, {"three", row(of(1, 10), of(5, 2), of(9, 7)), true},
		{"an ability of 0", row(of(0, 10)), false}, {"of 1", row(of(1, 10)), true}, {"of -1", row(of(-1, 10)), false}, {"of most", row(of(most, 10)), true}, {"of least", row(of(least, 10)), false},
		{"of 1<<32", row(of(1<<32, 10)), true}, {"of 1<<32 ahead of 1<<32+1", row(of(1<<32, 10), of(1<<32+1, 10)), true}, {"of 2 ahead of 1<<32+1", row(of(2, 10), of(1<<32+1, 10)), true},
		{"0 ahead of others", row(of(0, 10), of(1, 10), of(2, 10)), false}, {"0 behind others", row(of(1, 10), of(2, 10), of(0, 10)), false}, {"0 between others", row(of(1, 10), of(0, 10), of(2, 10)), false},
		{"-1 ahead of others", row(of(-1, 10), of(1, 10), of(2, 10)), false}, {"-1 and 0 ahead of others", row(of(-1, 10), of(0, 10), of(2, 10)), false},
		{"least ahead of most", row(of(least, 10), of(most, 10)), false}, {"1 ahead of most", row(of(1, 10), of(most, 10)), true}, {"most ahead of 1", row(of(most, 10), of(1, 10)), false},
		{"most ahead of least", row(of(most, 10), of(least, 10)), false}, {"most less one ahead of most", row(of(most-1, 10), of(most, 10)), true}, {"most twice", row(of(most, 10), of(most, 20)), false},
		{"two alike", row(of(2, 10), of(2, 10)), false},
		{"two alike first", row(of(2, 10), of(2, 20), of(3, 1), of(4, 1)), false}, {"two alike in the middle", row(of(1, 10), of(3, 20), of(3, 1), of(4, 1)), false}, {"two alike last", row(of(1, 10), of(2, 20), of(4, 1), of(4, 1)), false},
		{"two alike apart", row(of(2, 10), of(3, 20), of(2, 20)), false},
		{"a fall first", row(of(2, 10), of(1, 20), of(3, 1), of(4, 1)), false}, {"a fall in the middle", row(of(1, 10), of(3, 20), of(2, 1), of(4, 1)), false}, {"a fall last", row(of(1, 10), of(2, 20), of(4, 1), of(3, 1)), false},
		{"a fall below the first", row(of(2, 10), of(4, 20), of(1, 1)), false}, {"a fall that rises to the one ahead of it", row(of(2, 10), of(6, 20), of(4, 1), of(7, 1)), false},
		{"nothing", row(api.Cool{}), false}, {"a Back that is nil", row(api.Cool{Ability: 1}), false}, {"a Back of none", row(api.Cool{Ability: 1, Back: []int{}}), false},
		{"a nil Back first", row(of(1), of(2, 1), of(3, 1)), false}, {"a nil Back in the middle", row(of(1, 1), of(2), of(3, 1)), false}, {"a nil Back last", row(of(1, 1), of(2, 1), of(3)), false},
		{"an empty Back first", row(of(1, []int{}...), of(2, 1), of(3, 1)), false}, {"an empty Back last", row(of(1, 1), of(2, 1), of(3, []int{}...)), false},
		{"a Back of one number", row(of(1, 7)), true}, {"of two alike", row(of(1, 7, 7)), true}, {"of two that rise", row(of(1, 7, 8)), true}, {"of two that fall", row(of(1, 8, 7)), false},
		{"of alike ones", row(of(1, 1, 2, 2, 2, 3)), true}, {"of alike ones all along", row(of(1, alike(50, 4)...)), true},
		{"a fall first in a Back", row(of(1, 3, 2, 4, 5, 6)), false}, {"a fall in the middle of it", row(of(1, 2, 3, 5, 4, 6)), false}, {"a fall last in it", row(of(1, 2, 3, 4, 6, 5)), false},
		{"a Back that falls below its first", row(of(1, 2, 3, 1)), false}, {"a Back that falls all along", row(of(1, 5, 4, 3, 2, 1)), false},
		{"the most numbers", row(of(1, upTo(api.MaxStacks, 1)...)), true}, {"one fewer", row(of(1, upTo(api.MaxStacks-1, 1)...)), true}, {"one more", row(of(1, upTo(api.MaxStacks+1, 1)...)), false},
		{"the most alike", row(of(1, alike(api.MaxStacks, 9)...)), true}, {"one more alike", row(of(1, alike(api.MaxStacks+1, 9)...)), false}, {"many more", row(of(1, upTo(1000, 1)...)), false},
		{"the most in each", row(of(1, upTo(api.MaxStacks, 1)...), of(2, upTo(api.MaxStacks, 1)...), of(3, upTo(api.MaxStacks, 1)...)), true},
		{"one more behind", row(of(1, upTo(api.MaxStacks, 1)...), of(2, upTo(api.MaxStacks+1, 1)...)), false}, {"one more ahead", row(of(1, upTo(api.MaxStacks+1, 1)...), of(2, 1)), false},
		{"numbers below 0", row(of(1, -9, -5, -5, 0, 4)), true}, {"numbers below 0 that fall", row(of(1, -5, -9)), false}, {"one of 0", row(of(1, 0)), true}, {"one below 0", row(of(1, -1)), true},
		{"numbers at the ends", row(of(1, least, least, 0, most, most)), true}, {"from most to least", row(of(1, most, least)), false}, {"from least to most", row(of(1, least, most)), true}, {"least alone", row(of(1, least)), true}, {"most alone", row(of(1, most)), true},
		{"numbers that fall from Cool to Cool", row(of(1, 30), of(2, 20), of(3, 10)), true},
		{"a fall in the first", row(of(1, 2, 1), of(2, 1, 2), of(3, 1, 2)), false}, {"a fall in the middle one", row(of(1, 1, 2), of(2, 2, 1), of(3, 1, 2)), false}, {"a fall in the last", row(of(1, 1, 2), of(2, 1, 2), of(3, 2, 1)), false},
	}
	for _, one := range cases {
		if got := cool.Right(one.l); got != one.want {
			t.Errorf("%s: %v", one.name, got)
		}
	}
}

func TestP16_1RightAsTold(t *testing.T) {
	for _, l := range append(rows(), small()...) {
		if got := cool.Right(l); got != plainRight(l) {
			t.Fatalf("%v: %v", l, got)
		}
	}
	source, many := rand.New(rand.NewSource(1)), map[bool]int{}
	for range 40000 {
		l := drawn(source)
		if got := cool.Right(l); got != plainRight(l) {
			t.Fatalf("%v: %v", l, got)
		}
		many[plainRight(l)]++
	}
	if many[true] < 5000 || many[false] < 5000 {
		t.Errorf("too few of a sort were drawn: %v", many)
	}
}

// asked is a question for how many are ready, or for when the next one is.
type asked struct {
	name string
	l    []api.Cool
	a    api.Ability
	now  int
	want int
}

func checkAsked(t *testing.T, cases []asked, ask func(l []api.Cool, a api.Ability, now int) int) {
	t.Helper()
	for _, one := range cases {
		if got := ask(one.l, one.a, one.now); got != one.want {
			t.Errorf("%s: %d, not %d", one.name, got, one.want)
		}
	}
}

func TestP16_1ReadyByCases(t *testing.T) {
	three := row(of(1, 99), of(2, 10, 20, 30), of(5, 99, 99))
	checkAsked(t, []asked{
		{"a nil row", nil, some(2, 3, 10), 5, 3}, {"none", []api.Cool{}, some(2, 3, 10), 5, 3},
		{"an ability without a Cool", row(of(1, 99), of(3, 99)), some(2, 3, 10), 5, 3}, {"an ability ahead of all", row(of(2, 99), of(3, 99)), some(1, 3, 10), 5, 3}, {"an ability behind all", row(of(1, 99), of(2, 99)), some(3, 3, 10), 5, 3},
		{"an Id that would be cut", row(of(2, 99)), some(1<<32+2, 3, 10), 5, 3},
		{"one away", row(of(2, 10)), some(2, 3, 10), 5, 2}, {"alike ones away", row(of(2, 10, 10)), some(2, 3, 10), 5, 1},
		{"a nil Back", row(of(2)), some(2, 3, 10), 5, 3}, {"an empty Back", row(api.Cool{Ability: 2, Back: []int{}}), some(2, 3, 10), 5, 3},
		{"just at a number", row(of(2, 10)), some(2, 3, 10), 10, 3}, {"one above it", row(of(2, 10)), some(2, 3, 10), 11, 3}, {"one below it", row(of(2, 10)), some(2, 3, 10), 9, 2},
		{"ahead of all three", three, some(2, 3, 10), 9, 0}, {"at the first", three, some(2, 3, 10), 10, 1}, {"behind the first", three, some(2, 3, 10), 11, 1}, {"ahead of the second", three, some(2, 3, 10), 19, 1},
		{"at the second", three, some(2, 3, 10), 20, 2}, {"ahead of the third", three, some(2, 3, 10), 29, 2}, {"at the third", three, some(2, 3, 10), 30, 3}, {"behind all", three, some(2, 3, 10), 31, 3},
		{"as many away as charges", three, some(2, 3, 10), 0, 0}, {"one fewer away", three, some(2, 4, 10), 0, 1}, {"one more away", three, some(2, 2, 10), 0, 0}, {"two more away", three, some(2, 1, 10), 0, 0},
		{"the first ability", three, some(1, 3, 10), 0, 2}, {"the last ability", three, some(5, 3, 10), 0, 1},
		{"Charges 0, none away", nil, some(2, 0, 10), 5, 0}, {"Charges 0, some away", three, some(2, 0, 10), 5, 0}, {"Charges 1, none away", nil, some(2, 1, 10), 5, 1}, {"Charges 1, at a number", row(of(2, 5)), some(2, 1, 10), 5, 1}, {"Charges 1, one away", row(of(2, 6)), some(2, 1, 10), 5, 0},
		{"Charges -1, none away", nil, some(2, -1, 10), 5, 0}, {"Charges -1, some away", three, some(2, -1, 10), 5, 0}, {"Charges -1, one away", row(of(2, 6)), some(2, -1, 10), 5, 0},
		{"Charges most, none away", nil, some(2, most, 10), 5, most}, {"Charges most, three away", three, some(2, most, 10), 5, most - 3}, {"Charges least, none away", nil, some(2, least, 10), 5, 0}, {"Charges least, one away", row(of(2, 6)), some(2, least, 10), 5, 0}, {"Charges least, three away", three, some(2, least, 10), 5, 0},
		{"Charges least and two, three away", three, some(2, least+2, 10), 5, 0},
		{"MaxStacks, none away", nil, some(2, api.MaxStacks, 10), 5, 100}, {"MaxStacks, one fewer away", row(of(2, upTo(99, 6)...)), some(2, api.MaxStacks, 10), 5, 1}, {"MaxStacks, as many away", row(of(2, upTo(100, 6)...)), some(2, api.MaxStacks, 10), 5, 0}, {"MaxStacks, one more away", row(of(2, upTo(101, 6)...)), some(2, api.MaxStacks, 10), 5, 0},
		{"more than MaxStacks, as many away", row(of(2, upTo(100, 6)...)), some(2, 101, 10), 5, 1}, {"more than MaxStacks, more away", row(of(2, upTo(150, 6)...)), some(2, 151, 10), 5, 1},
		{"a Back that falls", row(of(2, 20, 10)), some(2, 3, 10), 15, 2}, {"its first away, then one that is not, then one that is", row(of(2, 20, 10, 30)), some(2, 3, 10), 15, 1}, {"its last is back", row(of(2, 20, 30, 10)), some(2, 3, 10), 15, 1}, {"its last is back just then", row(of(2, 20, 30, 15)), some(2, 3, 10), 15, 1}, {"one away between two that are back", row(of(2, 3, 20, 4)), some(2, 3, 10), 15, 2},
		{"two Cools of one ability", row(of(2, 20), of(2, 20, 30)), some(2, 3, 10), 15, 2}, {"two of one, the first back", row(of(2, 10), of(2, 20, 30)), some(2, 3, 10), 15, 3}, {"two of one, the first empty", row(of(2), of(2, 20, 30)), some(2, 3, 10), 15, 3}, {"two of one apart", row(of(2, 20, 30), of(1, 20), of(2, 20)), some(2, 3, 10), 15, 1},
		{"abilities that fall", row(of(5, 20), of(2, 20, 30), of(1, 20)), some(2, 3, 10), 15, 1}, {"abilities that fall, the last", row(of(5, 20), of(2, 20, 30), of(1, 20)), some(1, 3, 10), 15, 2}, {"abilities that fall, the first", row(of(5, 20), of(2, 20, 30), of(1, 20)), some(5, 3, 10), 15, 2},
		{"an ability of 0", row(of(0, 20)), some(0, 3, 10), 15, 2}, {"an ability below 0", row(of(-1, 20, 20)), some(-1, 3, 10), 15, 1}, {"an ability at the end", row(of(most, 20)), some(most, 3, 10), 15, 2}, {"an ability at the other end", row(of(least, 20)), some(least, 3, 10), 15, 2},
		{"a now below 0", row(of(2, -5, -4, 0)), some(2, 3, 10), -5, 1}, {"a now below all", row(of(2, -5, -4, 0)), some(2, 3, 10), -6, 0}, {"at most", row(of(2, most-1, most, most)), some(2, 3, 10), most, 3}, {"at most less one", row(of(2, most-1, most, most)), some(2, 3, 10), most - 1, 1},
		{"at least", row(of(2, least, least+1, most)), some(2, 3, 10), least, 1}, {"above least", row(of(2, least, least+1, most)), some(2, 3, 10), least + 1, 2}, {"least at most", row(of(2, least)), some(2, 3, 10), most, 3}, {"most at least", row(of(2, most)), some(2, 3, 10), least, 2},
		{"a Cool of 0", three, some(2, 3, 0), 15, 1}, {"a Cool below 0", three, some(2, 3, -7), 15, 1}, {"a Cool at the end", three, some(2, 3, most), 15, 1},
	}, cool.Ready)
}

// checkAskedAsTold holds a question's answer against what is told of it, at
// all small rows, at rows by cases, and at many drawn ones.
func checkAskedAsTold(t *testing.T, seed int64, ask, plain func(l []api.Cool, a api.Ability, now int) int) {
	t.Helper()
	check := func(l []api.Cool, a api.Ability, now int) {
		t.Helper()
		if got, want := ask(l, a, now), plain(l, a, now); got != want {
			t.Fatalf("%v, %+v at %d: %d, not %d", l, a, now, got, want)
		}
	}
	for _, l := range small() {
		for now := -1; now <= 3; now++ {
			for id := range 4 {
				for charges := range 4 {
					check(l, some(id, charges, 1), now)
				}
			}
		}
	}
	for _, l := range rows() {
		for _, n := range numbers() {
			for _, m := range numbers() {
				check(l, some(2, n, 1), m)
				check(l, some(n, 3, m), 10)
				check(l, some(2, 2, n), m)
			}
		}
	}
	source := rand.New(rand.NewSource(seed))
	for range 40000 {
		check(drawn(source), drawnAbility(source), drawnTime(source))
	}
}

func TestP16_1ReadyAsTold(t *testing.T) { checkAskedAsTold(t, 2, cool.Ready, plainReady) }

// checkRefused holds that Use answers the row as it is, and false.
func checkRefused(t *testing.T, name string, l []api.Cool, a api.Ability, now int) {
	t.Helper()
	want := deep(l)
	if made, ok := cool.Use(l, a, now); ok || !same(made, want) || !same(l, want) {
		t.Errorf("%s: %v of %v, %v", name, made, want, ok)
	}
}

// checkUsed holds that Use answers the row that is wanted, and true.
func checkUsed(t *testing.T, name string, l []api.Cool, a api.Ability, now int, want []api.Cool) {
	t.Helper()
	if made, ok := cool.Use(l, a, now); !ok || !same(made, want) {
		t.Errorf("%s: %v, %v, not %v", name, made, ok, want)
	}
}

func TestP16_2UseWithoutCharges(t *testing.T) {
	l := row(of(1, 3, 50), of(2, 10, 20), of(5, 4))
	for _, charges := range []int{2, 1, 0, -1, least} {
		checkRefused(t, fmt.Sprintf("two away of %d", charges), l, some(2, charges, 10), 5)
		checkRefused(t, fmt.Sprintf("two away of %d, a Cool of 0", charges), l, some(2, charges, 0), 5)
	}
	for _, charges := range []int{0, -1, least} {
		checkRefused(t, fmt.Sprintf("none away of %d", charges), l, some(3, charges, 10), 5)
		checkRefused(t, fmt.Sprintf("all back of %d", charges), l, some(2, charges, 10), 20)
		checkRefused(t, fmt.Sprintf("a nil row, %d charges", charges), nil, some(2, charges, 10), 5)
		checkRefused(t, fmt.Sprintf("no row, %d charges", charges), []api.Cool{}, some(2, charges, 0), 5)
	}
	checkUsed(t, "a third charge", l, some(2, 3, 10), 5, row(of(1, 3, 50), of(2, 10, 20, 30), of(5, 4)))
	checkRefused(t, "two away, just ahead of the first", l, some(2, 2, 10), 9)
	checkUsed(t, "two away, just at the first", l, some(2, 2, 10), 10, row(of(1, 3, 50), of(2, 20, 30), of(5, 4)))
	checkRefused(t, "one away, just ahead of the second", l, some(2, 1, 10), 19)
	checkUsed(t, "one away, just at the second", l, some(2, 1, 10), 20, row(of(1, 3, 50), of(2, 30), of(5, 4)))
	checkRefused(t, "the first ability", l, some(1, 2, 10), 2)
	checkRefused(t, "the last ability", l, some(5, 1, 10), 3)
	checkRefused(t, "away till the end", row(of(2, most)), some(2, 1, 10), most-1)
	checkRefused(t, "as many alike as charges", row(of(2, 9, 9, 9)), some(2, 3, 10), 8)
}

// TestP16_2UseWrongRow is of rows that are not right for one reason, where a
// charge is ready: of the ability 2, and of 4, which is not in them.
func TestP16_2UseWrongRow(t *testing.T) {
	cases := []struct {
		name string
		l    []api.Cool
	}{
		{"an ability of 0 alone", row(of(0, 10))}, {"of 0 first", row(of(0, 10), of(2, 10), of(9, 10))}, {"of -1 first", row(of(-1, 10), of(2, 10), of(9, 10))}, {"of least first", row(of(least, 10), of(2, 10), of(9, 10))}, {"of 0 last", row(of(1, 10), of(2, 10), of(0, 10))},
		{"the ability twice", row(of(2, 10), of(2, 10))}, {"another one twice, first", row(of(1, 10), of(1, 20), of(2, 10))}, {"another one twice, last", row(of(1, 10), of(2, 10), of(9, 10), of(9, 10))}, {"another one twice, in the middle", row(of(1, 10), of(3, 10), of(3, 10), of(9, 10))},
		{"a fall first", row(of(2, 10), of(1, 10), of(9, 10))}, {"a fall in the middle", row(of(1, 10), of(6, 10), of(5, 10), of(9, 10))}, {"a fall last", row(of(1, 10), of(2, 10), of(9, 10), of(8, 10))},
		{"nothing", row(api.Cool{})}, {"the ability's Back nil", row(of(1, 10), of(2), of(3, 10))}, {"the ability's Back empty", row(of(1, 10), api.Cool{Ability: 2, Back: []int{}}, of(3, 10))}, {"another Back nil, first", row(of(1), of(2, 10), of(3, 10))}, {"another Back empty, last", row(of(1, 10), of(2, 10), api.Cool{Ability: 3, Back: []int{}})},
		{"the ability's Back falls", row(of(1, 10), of(2, 20, 10), of(3, 10))}, {"it falls, all back", row(of(2, 4, 3))}, {"it falls in what is back", row(of(2, 4, 3, 10))}, {"it falls from what is away", row(of(2, 10, 3))}, {"it falls last", row(of(2, 3, 4, 20, 10))},
		{"another Back falls, first", row(of(1, 20, 10), of(2, 10))}, {"another Back falls, last", row(of(2, 10), of(3, 10, 20, 19))}, {"another Back falls in what is back", row(of(2, 10), of(3, 2, 1, 20))}, {"another Back falls at the ends", row(of(2, 10), of(3, most, least))},
		{"the ability's Back too long, all back", row(of(2, alike(101, 3)...))}, {"it is too long, all away", row(of(2, upTo(101, 10)...))}, {"it is too long, one away", row(of(2, append(alike(100, 3), 10)...))}, {"another one too long, first", row(of(1, alike(101, 3)...), of(2, 10))}, {"another one too long, last", row(of(2, 10), of(3, upTo(101, 10)...))}, {"another one far too long", row(of(2, 10), of(3, upTo(1000, 10)...))},
	}
	for _, one := range cases {
		for _, id := range []int{1, 2, 4, 9, most} {
			for _, cools := range []int{10, 0, -1} {
				for _, charges := range []int{3, 400} {
					a := some(id, charges, cools)
					if cool.Ready(one.l, a, 5) == 0 && charges == 400 {
						t.Errorf("%s: nothing is ready of %d", one.name, id)
					}
					checkRefused(t, fmt.Sprintf("%s, Id %d, Charges %d, Cool %d", one.name, id, charges, cools), one.l, a, 5)
				}
			}
		}
	}
	checkUsed(t, "the most are no flaw", row(of(2, 10), of(3, alike(100, 3)...)), some(2, 2, 5), 5, row(of(2, 10, 15), of(3, alike(100, 3)...)))
	checkUsed(t, "alike ones are no flaw", row(of(2, 10), of(3, 7, 7)), some(2, 2, 5), 5, row(of(2, 10, 15), of(3, 7, 7)))
	checkUsed(t, "numbers that are back are no flaw", row(of(2, 10), of(3, least, -1, 0)), some(2, 2, 5), 5, row(of(2, 10, 15), of(3, least, -1, 0)))
	checkUsed(t, "numbers at the end are no flaw", row(of(2, 10), of(most, least, most)), some(2, 2, 5), 5, row(of(2, 10, 15), of(most, least, most)))
}

func TestP16_2UseWrongId(t *testing.T) {
	for _, l := range [][]api.Cool{nil, {}, row(of(1, 10)), row(of(1, 10), of(2, 3)), row(of(most, 3))} {
		for _, id := range []int{0, -1, -2, least, least + 1, -1 << 32} {
			for _, cools := range []int{10, 0, -1, most} {
				checkRefused(t, fmt.Sprintf("Id %d, Cool %d", id, cools), l, some(id, 3, cools), 5)
			}
		}
	}
	checkUsed(t, "Id 1", nil, some(1, 3, 10), 5, row(of(1, 15)))
	checkUsed(t, "Id most", nil, some(most, 3, 10), 5, row(of(most, 15)))
	checkUsed(t, "Id 1<<32", row(of(1, 9)), some(1<<32, 3, 10), 5, row(of(1, 9), of(1<<32, 15)))
}

// TestP16_2UseMostAway is of abilities that have more charges than may be away.
func TestP16_2UseMostAway(t *testing.T) {
	for _, charges := range []int{101, 102, 1000, most} {
		for _, cools := range []int{10, 0, -1, most, least} {
			name := fmt.Sprintf("Charges %d, Cool %d", charges, cools)
			a := some(2, charges, cools)
			checkRefused(t, name+", all away", row(of(2, upTo(100, 10)...)), a, 5)
			checkRefused(t, name+", all away, alike", row(of(1, 3), of(2, alike(100, 10)...), of(3, 10)), a, 9)
			checkRefused(t, name+", all away till the end", row(of(2, alike(100, most)...)), a, most-1)
		}
		a := some(2, charges, 10)
		checkUsed(t, fmt.Sprintf("Charges %d, one fewer away", charges), row(of(2, upTo(99, 10)...)), a, 5, row(of(2, append(upTo(99, 10), 118)...)))
		checkUsed(t, fmt.Sprintf("Charges %d, one back", charges), row(of(2, upTo(100, 10)...)), a, 10, row(of(2, append(upTo(99, 11), 119)...)))
		checkUsed(t, fmt.Sprintf("Charges %d, all back", charges), row(of(2, upTo(100, 10)...)), a, 109, row(of(2, 119)))
		checkUsed(t, fmt.Sprintf("Charges %d, one fewer away, a Cool of 0", charges), row(of(2, upTo(99, 10)...)), some(2, charges, 0), 5, row(of(2, upTo(99, 10)...)))
		checkUsed(t, fmt.Sprintf("Charges %d, another one's are all away", charges), row(of(1, upTo(100, 10)...)), a, 5, row(of(1, upTo(100, 10)...), of(2, 15)))
	}
	checkUsed(t, "the last of MaxStacks", row(of(2, upTo(99, 10)...)), some(2, 100, 10), 5, row(of(2, append(upTo(99, 10), 118)...)))
	checkRefused(t, "none of MaxStacks", row(of(2, upTo(100, 10)...)), some(2, 100, 10), 5)
}

// used is a Use that answers true, and the row that it answers.
type used struct {
	name string
	l    []api.Cool
	a    api.Ability
	now  int
	want []api.Cool
}

func checkAllUsed(t *testing.T, cases []used) {
	t.Helper()
	for _, one := range cases {
		checkUsed(t, one.name, one.l, one.a, one.now, one.want)
		one.l = append(slices.Clone(one.l), of(most, 5, 5))
		checkUsed(t, one.name+", another one behind", one.l, one.a, one.now, append(slices.Clone(one.want), of(most, 5, 5)))
	}
}

func TestP16_2UseByCool(t *testing.T) {
	one, two := row(of(2, 10)), row(of(2, 10, 20))
	checkAllUsed(t, []used{
		{"none away", nil, some(2, 9, 10), 5, row(of(2, 15))}, {"an empty row", []api.Cool{}, some(2, 9, 10), 5, row(of(2, 15))}, {"one away", one, some(2, 9, 10), 5, row(of(2, 10, 20))}, {"two away", two, some(2, 9, 10), 5, row(of(2, 10, 20, 30))}, {"one away, another Cool", one, some(2, 9, 3), 5, row(of(2, 10, 13))},
		{"Cool 1, none away", nil, some(2, 9, 1), 5, row(of(2, 6))}, {"Cool 1, one away", one, some(2, 9, 1), 5, row(of(2, 10, 11))}, {"Cool 1, two away", two, some(2, 9, 1), 5, row(of(2, 10, 20, 21))},
		{"Cool 0, none away", nil, some(2, 9, 0), 5, nil}, {"Cool 0, one away", one, some(2, 9, 0), 5, one}, {"Cool 0, two away", two, some(2, 9, 0), 5, two}, {"Cool 0, all back", two, some(2, 9, 0), 20, nil}, {"Cool 0, one back", two, some(2, 9, 0), 10, row(of(2, 20))},
		{"Cool -1, none away", nil, some(2, 9, -1), 5, nil}, {"Cool -1, one away", one, some(2, 9, -1), 5, one}, {"Cool -1, two away", two, some(2, 9, -1), 5, two}, {"Cool -1, all back", two, some(2, 9, -1), 20, nil}, {"Cool -1, one back", two, some(2, 9, -1), 10, row(of(2, 20))},
		{"Cool least, none away", nil, some(2, 9, least), 5, nil}, {"Cool least, one away", one, some(2, 9, least), 5, one}, {"Cool least, two away", two, some(2, 9, least), 5, two}, {"Cool least, all back", two, some(2, 9, least), 20, nil},
		{"Cool most, none away", nil, some(2, 9, most), 5, row(of(2, most))}, {"Cool most at 0", nil, some(2, 9, most), 0, row(of(2, most))}, {"Cool most below 0", nil, some(2, 9, most), -5, row(of(2, most-5))}, {"Cool most, one away", one, some(2, 9, most), 5, row(of(2, 10, most))}, {"Cool most, two away", two, some(2, 9, most), 5, row(of(2, 10, 20, most))}, {"Cool most, all back", two, some(2, 9, most), 20, row(of(2, most))},
		{"Cool most, away till below 0", row(of(2, -7)), some(2, 9, most), -9, row(of(2, -7, most-7))}, {"Cool 1<<32", one, some(2, 9, 1<<32), 5, row(of(2, 10, 1<<32+10))},
		{"ahead of the first", two, some(2, 9, 7), 9, row(of(2, 10, 20, 27))}, {"at the first", two, some(2, 9, 7), 10, row(of(2, 20, 27))}, {"behind the first", two, some(2, 9, 7), 11, row(of(2, 20, 27))}, {"ahead of the second", two, some(2, 9, 7), 19, row(of(2, 20, 27))},
		{"at the second", two, some(2, 9, 7), 20, row(of(2, 27))}, {"behind the second", two, some(2, 9, 7), 21, row(of(2, 28))}, {"long after", two, some(2, 9, 7), 1000, row(of(2, 1007))},
		{"alike ones, away", row(of(2, 10, 10)), some(2, 9, 7), 9, row(of(2, 10, 10, 17))}, {"alike ones, back", row(of(2, 10, 10)), some(2, 9, 7), 10, row(of(2, 17))}, {"alike ones, some back", row(of(2, 10, 10, 12, 12)), some(2, 9, 7), 10, row(of(2, 12, 12, 19))},
		{"the last is behind now, and now is not asked", row(of(2, 100)), some(2, 9, 1), 5, row(of(2, 100, 101))},
		{"one charge, used again just then", one, some(2, 1, 10), 10, row(of(2, 20))}, {"one charge, used late", one, some(2, 1, 10), 13, row(of(2, 23))}, {"many charges", nil, some(2, most, 10), 5, row(of(2, 15))},
		{"a now of 0", nil, some(2, 9, 10), 0, row(of(2, 10))}, {"a now below 0", row(of(2, -9, -5)), some(2, 9, 3), -9, row(of(2, -5, -2))}, {"a now below 0, none away", nil, some(2, 9, 10), -30, row(of(2, -20))},
	})
}

func TestP16_2UseAtTheEnds(t *testing.T) {
	checkAllUsed(t, []used{
		{"up to the end by now", nil, some(2, 9, 3), most - 3, row(of(2, most))}, {"one less", nil, some(2, 9, 3), most - 4, row(of(2, most-1))}, {"over the end by now", nil, some(2, 9, 3), most - 2, row(of(2, most))}, {"over it by one", nil, some(2, 9, 1), most, row(of(2, most))}, {"both at the end", nil, some(2, 9, most), most, row(of(2, most))},
		{"over the end by the last one", row(of(2, 10, most-2)), some(2, 9, 3), 5, row(of(2, 10, most-2, most))}, {"up to it by the last one", row(of(2, 10, most-3)), some(2, 9, 3), 5, row(of(2, 10, most-3, most))}, {"the last one at the end", row(of(2, most)), some(2, 9, 3), 5, row(of(2, most, most))}, {"all at the end", row(of(2, most, most)), some(2, 9, most), most - 1, row(of(2, most, most, most))},
		{"back at the end", row(of(2, most, most)), some(2, 9, 3), most, row(of(2, most))}, {"back at the end, a Cool of 0", row(of(2, most, most)), some(2, 9, 0), most, nil}, {"one back ahead of the end", row(of(2, most-1, most)), some(2, 9, 3), most - 1, row(of(2, most, most))},
		{"at the other end", nil, some(2, 9, 3), least, row(of(2, least+3))}, {"at the other end, one away", row(of(2, least+1)), some(2, 9, 3), least, row(of(2, least+1, least+4))}, {"at the other end, one back", row(of(2, least)), some(2, 9, 3), least, row(of(2, least+3))}, {"at the other end, a Cool of most", nil, some(2, 9, most), least, row(of(2, -1))},
		{"at the other end, a Cool of -1", nil, some(2, 9, -1), least, nil}, {"at the other end, one away and a Cool of least", row(of(2, least+1)), some(2, 9, least), least, row(of(2, least+1))}, {"from the other end to the end", row(of(2, most)), some(2, 9, 3), least, row(of(2, most, most))},
	})
}

// TestP16_2UseByPlace is of abilities at each place of a row whose others have
// numbers that are back by now, and stay as they are.
func TestP16_2UseByPlace(t *testing.T) {
	l := row(of(2, 1, 40), of(4, 1, 2), of(6, 40, 50))
	for _, one := range []used{
		{"the first", l, some(2, 9, 10), 5, row(of(2, 40, 50), of(4, 1, 2), of(6, 40, 50))},
		{"the middle one, all back", l, some(4, 9, 10), 5, row(of(2, 1, 40), of(4, 15), of(6, 40, 50))},
		{"the last", l, some(6, 9, 10), 5, row(of(2, 1, 40), of(4, 1, 2), of(6, 40, 50, 60))},
		{"the first, all back", l, some(2, 9, 10), 40, row(of(2, 50), of(4, 1, 2), of(6, 40, 50))},
		{"the last, all back", l, some(6, 9, 10), 50, row(of(2, 1, 40), of(4, 1, 2), of(6, 60))},
		{"ahead of all", l, some(1, 9, 10), 5, row(of(1, 15), of(2, 1, 40), of(4, 1, 2), of(6, 40, 50))},
		{"between the first two", l, some(3, 9, 10), 5, row(of(2, 1, 40), of(3, 15), of(4, 1, 2), of(6, 40, 50))},
		{"between the last two", l, some(5, 9, 10), 5, row(of(2, 1, 40), of(4, 1, 2), of(5, 15), of(6, 40, 50))},
		{"just behind all", l, some(7, 9, 10), 5, row(of(2, 1, 40), of(4, 1, 2), of(6, 40, 50), of(7, 15))},
		{"far behind all", l, some(most, 9, 10), 5, row(of(2, 1, 40), of(4, 1, 2), of(6, 40, 50), of(most, 15))},
		{"an Id that would be cut", l, some(1<<32+1, 9, 10), 5, row(of(2, 1, 40), of(4, 1, 2), of(6, 40, 50), of(1<<32+1, 15))},
		{"no place for it, a Cool of 0", l, some(3, 9, 0), 5, l}, {"no place for it, a Cool below 0", l, some(3, 9, -4), 5, l},
		{"gone first, a Cool of 0", l, some(2, 9, 0), 40, row(of(4, 1, 2), of(6, 40, 50))}, {"gone in the middle", l, some(4, 9, 0), 5, row(of(2, 1, 40), of(6, 40, 50))}, {"gone in the middle, a Cool below 0", l, some(4, 9, -1), 2, row(of(2, 1, 40), of(6, 40, 50))}, {"gone last", l, some(6, 9, 0), 50, row(of(2, 1, 40), of(4, 1, 2))},
		{"ahead of its last, a Cool of 0", l, some(4, 9, 0), 1, row(of(2, 1, 40), of(4, 2), of(6, 40, 50))},
		{"gone, and all others back", l, some(4, 9, 0), 1000, row(of(2, 1, 40), of(6, 40, 50))}, {"begun anew, and all others back", l, some(4, 9, 10), 1000, row(of(2, 1, 40), of(4, 1010), of(6, 40, 50))},
		{"alone, gone", row(of(4, 1, 2)), some(4, 9, 0), 5, nil}, {"alone, begun anew", row(of(4, 1, 2)), some(4, 1, 6), 5, row(of(4, 11))},
		{"behind all of one", row(of(most-1, 3)), some(most, 9, 10), 5, row(of(most-1, 3), of(most, 15))}, {"ahead of all of one", row(of(most, 3)), some(1, 9, 10), 5, row(of(1, 15), of(most, 3))},
	} {
		checkUsed(t, one.name, one.l, one.a, one.now, one.want)
	}
}

func TestP16_2UseAsTold(t *testing.T) {
	for _, l := range small() {
		for now := -1; now <= 2; now++ {
			for id := range 4 {
				for charges := range 4 {
					for cools := range 3 {
						use(some(id, charges, cools), now).holds(t, l)
					}
				}
			}
		}
	}
	for _, l := range rows() {
		for _, n := range numbers() {
			for _, m := range numbers() {
				use(some(2, n, 10), m).holds(t, l)
				use(some(n, 101, m), 5).holds(t, l)
				use(some(2, 101, n), m).holds(t, l)
			}
		}
	}
	source, many := rand.New(rand.NewSource(3)), map[bool]int{}
	for range 60000 {
		l, a, now := drawn(source), drawnAbility(source), drawnTime(source)
		use(a, now).holds(t, l)
		_, ok := cool.Use(l, a, now)
		many[ok]++
	}
	if many[true] < 5000 || many[false] < 5000 {
		t.Errorf("too few of a sort were drawn: %v", many)
	}
}

func TestP16_3NextByCases(t *testing.T) {
	three := row(of(1, 99), of(2, 10, 20, 30), of(5, 99, 99))
	checkAsked(t, []asked{
		{"none away", nil, some(2, 1, 10), 5, 5}, {"an empty row", []api.Cool{}, some(2, 1, 10), 5, 5}, {"some away, one ready", three, some(2, 4, 10), 5, 5}, {"two ready", three, some(2, 5, 10), -5, -5}, {"another ability away", row(of(1, 99)), some(2, 1, 10), 5, 5}, {"all back", three, some(2, 1, 10), 30, 30}, {"just back", three, some(2, 3, 10), 10, 10},
		{"one away of one", row(of(2, 10)), some(2, 1, 10), 5, 10}, {"just ahead of it", row(of(2, 10)), some(2, 1, 10), 9, 10}, {"just at it", row(of(2, 10)), some(2, 1, 10), 10, 10}, {"just behind it", row(of(2, 10)), some(2, 1, 10), 11, 11},
		{"three away of three", three, some(2, 3, 10), 5, 10}, {"two away of two", three, some(2, 2, 10), 10, 20}, {"two away of two, later", three, some(2, 2, 10), 19, 20}, {"one away of one, later", three, some(2, 1, 10), 25, 30}, {"three away of two: the first", three, some(2, 2, 10), 5, 10}, {"three away of one: the first", three, some(2, 1, 10), 5, 10}, {"two away of one: the first of those", three, some(2, 1, 10), 15, 20},
		{"alike ones", row(of(2, 7, 7)), some(2, 2, 10), 5, 7}, {"the first ability", three, some(1, 1, 10), 5, 99}, {"the last ability", three, some(5, 2, 10), 5, 99},
		{"a Back that falls: its first", row(of(2, 20, 10)), some(2, 2, 10), 5, 20}, {"a Back that falls: the first away", row(of(2, 3, 20, 10)), some(2, 2, 10), 5, 20}, {"one back between", row(of(2, 20, 3, 10)), some(2, 2, 10), 5, 20}, {"the only one away, not the first nor the last", row(of(2, 3, 20, 4)), some(2, 1, 10), 5, 20}, {"the greatest first, the least last", row(of(2, 30, 20, 10)), some(2, 1, 10), 15, 30}, {"the least in the middle", row(of(2, 30, 10, 20)), some(2, 1, 10), 5, 30}, {"just at one behind the first", row(of(2, 30, 5, 10)), some(2, 1, 10), 5, 30}, {"one that would be ready if it rose", row(of(2, 20, 4)), some(2, 2, 10), 5, 5},
		{"two Cools of one ability", row(of(2, 20), of(2, 10)), some(2, 1, 10), 5, 20}, {"two of one, the first back", row(of(2, 3), of(2, 10)), some(2, 1, 10), 5, 5}, {"two of one, the first empty", row(of(2), of(2, 10)), some(2, 1, 10), 5, 5}, {"abilities that fall", row(of(5, 50), of(2, 20), of(1, 10)), some(2, 1, 10), 5, 20},
		{"an ability of 0", row(of(0, 20)), some(0, 1, 10), 5, 20}, {"an ability below 0", row(of(-1, 20)), some(-1, 1, 10), 5, 20}, {"an ability of most", row(of(most, 20)), some(most, 1, 10), 5, 20}, {"an ability of least", row(of(least, 20)), some(least, 1, 10), 5, 20},
		{"Charges 0, none away", nil, some(2, 0, 10), 5, most}, {"Charges 0, one away", row(of(2, 10)), some(2, 0, 10), 5, most}, {"Charges 0, all back", row(of(2, 10)), some(2, 0, 10), 10, most}, {"Charges 0, several away", three, some(2, 0, 10), 5, most}, {"Charges -1, none away", nil, some(2, -1, 10), 5, most}, {"Charges -1, one away", row(of(2, 10)), some(2, -1, 10), 5, most}, {"Charges -1, several away", three, some(2, -1, 10), 5, most},
		{"Charges least, none away", nil, some(2, least, 10), 5, most}, {"Charges least, one away", row(of(2, 10)), some(2, least, 10), 5, most}, {"Charges least, several away", three, some(2, least, 10), 5, most}, {"Charges most, none away", nil, some(2, most, 10), 5, 5}, {"Charges most, several away", three, some(2, most, 10), 5, 5},
		{"Charges 0 at most", nil, some(2, 0, 10), most, most}, {"Charges 0 at least", nil, some(2, 0, 10), least, most}, {"Charges -1 at least, one away", row(of(2, 10)), some(2, -1, 10), least, most},
		{"ready at most", row(of(2, most)), some(2, 1, 10), most, most}, {"ready at least", row(of(2, least)), some(2, 1, 10), least, least}, {"none away at least", nil, some(2, 1, 10), least, least}, {"away at least", row(of(2, least+1)), some(2, 1, 10), least, least + 1}, {"away till most", row(of(2, most)), some(2, 1, 10), most - 1, most}, {"from least to most", row(of(2, most)), some(2, 1, 10), least, most}, {"below 0", row(of(2, -7, -5)), some(2, 1, 10), -7, -5},
		{"all of MaxStacks away", row(of(2, upTo(100, 10)...)), some(2, 100, 10), 5, 10}, {"all of MaxStacks away of one more", row(of(2, upTo(100, 10)...)), some(2, 101, 10), 5, 5}, {"a Cool of 0", row(of(2, 10)), some(2, 1, 0), 5, 10}, {"a Cool below 0", row(of(2, 10)), some(2, 1, -1), 5, 10},
	}, cool.Next)
}

func TestP16_3NextAsTold(t *testing.T) { checkAskedAsTold(t, 4, cool.Next, plainNext) }

// turned is a row, a number, and the row that comes of it.
type turned struct {
	name string
	l    []api.Cool
	n    int
	want []api.Cool
}

func checkTurned(t *testing.T, cases []turned, turn func(l []api.Cool, n int) []api.Cool) {
	t.Helper()
	for _, one := range cases {
		if got := turn(one.l, one.n); !same(got, one.want) {
			t.Errorf("%s: %v, not %v", one.name, got, one.want)
		}
	}
}

func TestP16_3CleanByCases(t *testing.T) {
	two := row(of(2, 10, 20))
	four := row(of(1, 10), of(2, 30), of(3, 11), of(4, 40, 41))
	checkTurned(t, []turned{
		{"a nil row", nil, 5, nil}, {"none", []api.Cool{}, 5, nil},
		{"ahead of the first", two, 9, two}, {"at the first", two, 10, row(of(2, 20))}, {"behind the first", two, 11, row(of(2, 20))}, {"ahead of the second", two, 19, row(of(2, 20))}, {"at the second", two, 20, nil}, {"behind the second", two, 21, nil},
		{"alike ones, ahead", row(of(2, 7, 7, 7)), 6, row(of(2, 7, 7, 7))}, {"alike ones, at", row(of(2, 7, 7, 7)), 7, nil},
		{"all stay", four, 9, four}, {"all stay, some only in part", four, 40, row(of(4, 41))}, {"all go", four, 41, nil}, {"every second one", four, 29, row(of(2, 30), of(4, 40, 41))}, {"the first goes", four, 10, row(of(2, 30), of(3, 11), of(4, 40, 41))}, {"the last stays alone", four, 30, row(of(4, 40, 41))},
		{"every second one, the first too", row(of(1, 30), of(2, 5), of(3, 40), of(4, 6), of(5, 50)), 10, row(of(1, 30), of(3, 40), of(5, 50))}, {"the last goes", row(of(1, 30), of(2, 40), of(3, 5)), 10, row(of(1, 30), of(2, 40))}, {"two go in the middle", row(of(1, 30), of(2, 4), of(3, 5), of(4, 60)), 10, row(of(1, 30), of(4, 60))},
		{"some go ahead", row(of(2, 3, 4, 20, 30)), 10, row(of(2, 20, 30))}, {"some go behind", row(of(2, 20, 30, 3, 4)), 10, row(of(2, 20, 30))}, {"some go between", row(of(2, 20, 3, 4, 30)), 10, row(of(2, 20, 30))}, {"every second number", row(of(2, 3, 20, 4, 30, 5, 25)), 10, row(of(2, 20, 30, 25))}, {"one goes at now between", row(of(2, 20, 10, 11, 9)), 10, row(of(2, 20, 11))}, {"a Back that falls, all stay", row(of(2, 30, 20, 15)), 10, row(of(2, 30, 20, 15))}, {"a Back that falls, all go", row(of(2, 9, 8, 10)), 10, nil},
		{"nil Backs", row(of(1), of(2, 20), of(3)), 10, row(of(2, 20))}, {"empty Backs", row(api.Cool{Ability: 1, Back: []int{}}, of(2, 20), api.Cool{Ability: 3, Back: []int{}}), 10, row(of(2, 20))}, {"nil Backs alone", row(of(1), of(2)), least, nil}, {"nothing", row(api.Cool{}), 10, nil},
		{"abilities that fall", row(of(5, 20), of(3, 5), of(2, 30), of(1, 40)), 10, row(of(5, 20), of(2, 30), of(1, 40))}, {"alike abilities", row(of(2, 20), of(2, 5), of(2, 5, 30)), 10, row(of(2, 20), of(2, 30))}, {"abilities of 0 and below", row(of(0, 20), of(-1, 5, 30), of(least, 40)), 10, row(of(0, 20), of(-1, 30), of(least, 40))}, {"Backs too long", row(of(1, append(upTo(60, -70), upTo(101, 11)...)...), of(2, upTo(300, -400)...)), 10, row(of(1, upTo(101, 11)...))},
		{"below 0", row(of(2, -9, -5, 0)), -5, row(of(2, 0))}, {"at most", row(of(2, 10, most)), most, nil}, {"at most less one", row(of(2, 10, most-1, most)), most - 1, row(of(2, most))}, {"at least", row(of(1, least), of(2, least, least+1, most)), least, row(of(2, least+1, most))}, {"least at most", row(of(2, least, -1)), most, nil}, {"most at least", row(of(2, most, most)), least, row(of(2, most, most))},
	}, cool.Clean)
}

func TestP16_3ResetByCases(t *testing.T) {
	l := row(of(2, 10), of(4, 20, 30), of(6, 40))
	checkTurned(t, []turned{
		{"a nil row", nil, 5, nil}, {"none", []api.Cool{}, 5, nil}, {"a nil row, 0", nil, 0, nil},
		{"the first", l, 2, row(of(4, 20, 30), of(6, 40))}, {"the middle one", l, 4, row(of(2, 10), of(6, 40))}, {"the last", l, 6, row(of(2, 10), of(4, 20, 30))}, {"the only one", row(of(2, 10)), 2, nil},
		{"one ahead of all", l, 1, l}, {"one between", l, 5, l}, {"one behind all", l, 7, l}, {"0", l, 0, l}, {"-1", l, -1, l}, {"-2", l, -2, l}, {"most", l, most, l}, {"least", l, least, l}, {"one that would be cut", l, 1<<32 + 2, l},
		{"one that is there twice", row(of(2, 10), of(2, 20), of(3, 30)), 2, row(of(3, 30))}, {"twice, apart", row(of(2, 10), of(1, 20), of(2, 30)), 2, row(of(1, 20))}, {"twice and no other", row(of(2, 10), of(2, 20)), 2, nil}, {"another one is there twice", row(of(2, 10), of(2, 20), of(3, 30)), 3, row(of(2, 10), of(2, 20))}, {"thrice, at every second place", row(of(2, 10), of(1, 20), of(2), of(3, 5), of(2, 30)), 2, row(of(1, 20), of(3, 5))},
		{"0 that is there", row(of(0, 10), of(1, 20)), 0, row(of(1, 20))}, {"-1 that is there", row(of(-1, 10), of(1, 20)), -1, row(of(1, 20))}, {"most that is there", row(of(1, 10), of(most, 20)), most, row(of(1, 10))}, {"least that is there", row(of(least, 10), of(most, 20)), least, row(of(most, 20))},
		{"abilities that fall", row(of(6, 10), of(4, 20), of(2, 30)), 4, row(of(6, 10), of(2, 30))}, {"nil Backs stay", row(of(1), of(2, 20), of(3)), 2, row(of(1), of(3))}, {"a nil Back goes", row(of(1), of(2, 20), of(3)), 3, row(of(1), of(2, 20))}, {"an empty Back stays", row(api.Cool{Ability: 1, Back: []int{}}, of(2, 20)), 2, row(of(1))}, {"nothing, by 0", row(api.Cool{}), 0, nil}, {"nothing, by 1", row(api.Cool{}), 1, row(api.Cool{})},
		{"Backs that fall", row(of(1, 30, 10, 20), of(2, 5)), 2, row(of(1, 30, 10, 20))}, {"Backs too long", row(of(1, upTo(300, 7)...), of(2, upTo(101, 5)...)), 2, row(of(1, upTo(300, 7)...))},
	}, cool.Reset)
}

func TestP16_3CleanAndResetAsTold(t *testing.T) {
	for _, l := range append(rows(), small()...) {
		for n := -2; n <= 12; n++ {
			clean(n).holds(t, l)
			reset(n).holds(t, l)
		}
		for _, n := range numbers() {
			clean(n).holds(t, l)
			reset(n).holds(t, l)
		}
		for _, c := range l {
			reset(c.Ability).holds(t, l)
			for _, n := range c.Back {
				clean(n).holds(t, l)
			}
		}
	}
	source := rand.New(rand.NewSource(5))
	for range 30000 {
		l := drawn(source)
		clean(drawnTime(source)).holds(t, l)
		reset(drawnAbility(source).Id).holds(t, l)
	}
}

// roomy answers the numbers with spare room behind them that holds others.
func roomy(back []int) []int {
	whole := append(slices.Clone(back), 771, 772, 773, 774)
	return whole[:len(back)]
}

// look is what can be seen of a row in all depths, its spare room too.
func look(l []api.Cool) []int {
	seen := []int{len(l), cap(l)}
	for _, c := range l[:cap(l)] {
		seen = append(seen, c.Ability, len(c.Back), cap(c.Back))
		seen = append(seen, c.Back[:cap(c.Back)]...)
	}
	return seen
}

// guarded answers the row with spare room in all depths, and a check that
// nothing of it has changed.
func guarded(t *testing.T, l []api.Cool) ([]api.Cool, func()) {
	made := make([]api.Cool, 0, len(l)+3)
	for _, c := range l {
		made = append(made, api.Cool{Ability: c.Ability, Back: roomy(c.Back)})
	}
	for i := range made[len(l):cap(made)] {
		made[:cap(made)][len(l)+i] = api.Cool{Ability: 781 + i, Back: roomy([]int{791, 792})}
	}
	return made, sameLook(t, made)
}

// joined answers the row with all Backs in one memory, one behind the other,
// so that the spare room of each holds those behind it, and a check that
// nothing of it has changed.
func joined(t *testing.T, l []api.Cool) ([]api.Cool, func()) {
	var all []int
	for _, c := range l {
		all = append(all, c.Back...)
	}
	all = append(all, 771, 772)
	made := make([]api.Cool, 0, len(l))
	for _, c := range l {
		made = append(made, api.Cool{Ability: c.Ability, Back: all[:len(c.Back)]})
		all = all[len(c.Back):]
	}
	return made, sameLook(t, made)
}

// cut answers the row without spare room, and a check that nothing of it has
// changed.
func cut(t *testing.T, l []api.Cool) ([]api.Cool, func()) {
	made := make([]api.Cool, len(l))
	for i, c := range l {
		made[i] = api.Cool{Ability: c.Ability, Back: slices.Clip(slices.Clone(c.Back))}
	}
	return made, sameLook(t, made)
}

func sameLook(t *testing.T, l []api.Cool) func() {
	before := look(l)
	return func() {
		t.Helper()
		if now := look(l); !slices.Equal(now, before) {
			t.Fatalf("%v became %v", before, now)
		}
	}
}

// ways are the sorts of memory that a row may be handed in with.
func ways() []func(t *testing.T, l []api.Cool) ([]api.Cool, func()) {
	return []func(t *testing.T, l []api.Cool) ([]api.Cool, func()){guarded, joined, cut}
}

// spoilBack writes over all numbers, those of the spare room too.
func spoilBack(back []int) {
	back = back[:cap(back)]
	for i := range back {
		back[i] = -777
	}
}

// spoil writes over all that a row has in all depths, its spare room too.
func spoil(l []api.Cool) {
	l = l[:cap(l)]
	for i := range l {
		spoilBack(l[i].Back)
		l[i] = of(-778, -779)
	}
}

// calls are calls of each sort that turn something of the row, and that turn
// nothing.
func calls(l []api.Cool) []call {
	list := []call{clean(least), clean(-3), clean(5), clean(10), clean(most), reset(0), reset(-1), reset(1), reset(2), reset(4), reset(most)}
	for _, id := range []int{0, 1, 2, 3, 5, 9, 300, most} {
		for _, charges := range []int{0, 1, 3, 101} {
			for _, cools := range []int{0, 10} {
				list = append(list, use(some(id, charges, cools), 5), use(some(id, charges, cools), least), use(some(id, charges, cools), most))
			}
		}
	}
	for i, c := range l {
		if i < 12 && len(c.Back) > 0 {
			list = append(list, reset(c.Ability), clean(c.Back[0]), use(some(c.Ability, 7, 10), c.Back[0]), use(some(c.Ability, 7, 0), c.Back[0]), use(some(c.Ability, 7, 10), least))
		}
	}
	return list
}

func TestP16_4NothingIsChanged(t *testing.T) {
	for _, way := range ways() {
		for _, l := range rows() {
			handed, check := way(t, l)
			for _, one := range calls(l) {
				one.made(handed)
				check()
			}
			cool.Right(handed)
			check()
			for _, now := range []int{least, 5, 10, most} {
				for id := -1; id <= 9; id++ {
					cool.Ready(handed, some(id, 2, 10), now)
					cool.Next(handed, some(id, 1, 10), now)
					check()
				}
			}
		}
	}
}

// TestP16_4AbilityIsNotChanged is of the ability that is handed in.
func TestP16_4AbilityIsNotChanged(t *testing.T) {
	for _, l := range rows() {
		a := some(2, 200, 10)
		a.Effects = append(a.Effects, api.Effect{Kind: 771})[:1]
		want := fmt.Sprint(a, a.Effects[:2])
		cool.Use(l, a, 5)
		cool.Ready(l, a, 5)
		cool.Next(l, a, 5)
		if got := fmt.Sprint(a, a.Effects[:2]); got != want {
			t.Fatalf("%s became %s", want, got)
		}
	}
}

// TestP16_4AnswersAreNewMemory writes over what one call answered, and looks
// at what was handed in and at a second answer.
func TestP16_4AnswersAreNewMemory(t *testing.T) {
	for _, way := range ways() {
		for _, l := range rows() {
			handed, check := way(t, l)
			for _, one := range calls(l) {
				want, wantOk := one.plain(l)
				first, _ := one.made(handed)
				second, _ := one.made(handed)
				spoil(first)
				check()
				if !same(second, want) {
					t.Fatalf("%s of %v: the second answer is %v by now, not %v", one.name, l, second, want)
				}
				spoil(second)
				check()
				if third, ok := one.made(handed); !same(third, want) || ok != wantOk {
					t.Fatalf("%s of %v: the third answer is %v, not %v", one.name, l, third, want)
				}
			}
		}
	}
}

// TestP16_4BacksAreApart writes over each Back of an answer by itself, and
// lets each grow, and looks at the others.
func TestP16_4BacksAreApart(t *testing.T) {
	for _, l := range rows() {
		for _, one := range calls(l) {
			want, _ := one.plain(l)
			if len(want) > 20 {
				continue
			}
			for i := range want {
				spoiled, _ := one.made(l)
				grown, _ := one.made(l)
				spoilBack(spoiled[i].Back)
				longer := append(grown[i].Back, alike(40, -777)...)
				if len(longer) != len(want[i].Back)+40 || !same(grown, want) {
					t.Fatalf("%s of %v: %v, when a Back has grown", one.name, l, grown)
				}
				spoiled[i].Back, grown[i].Back = want[i].Back, want[i].Back
				if !same(spoiled, want) || !same(grown, want) {
					t.Fatalf("%s of %v: %v and %v by now, not %v", one.name, l, spoiled, grown, want)
				}
			}
			grown, _ := one.made(l)
			for i := range grown {
				grown[i].Back = append(grown[i].Back, 1000+i)
				want[i].Back = append(slices.Clone(want[i].Back), 1000+i)
			}
			if !same(grown, want) {
				t.Fatalf("%s of %v: all grown: %v, not %v", one.name, l, grown, want)
			}
		}
	}
}

// TestP16_4NothingIsKept writes over what was handed in.
func TestP16_4NothingIsKept(t *testing.T) {
	for _, way := range ways() {
		for _, l := range rows() {
			for _, one := range calls(l) {
				want, wantOk := one.plain(l)
				handed, _ := way(t, l)
				made, ok := one.made(handed)
				spoil(handed)
				if !same(made, want) || ok != wantOk {
					t.Fatalf("%s of %v: %v by now, not %v", one.name, l, made, want)
				}
				one.holds(t, l)
			}
		}
	}
}

// walk is one that uses abilities, each with charges and a Cool of its own, at
// rising times.
type walk struct {
	source *rand.Rand
	all    []api.Ability
	l      []api.Cool
	now    int
}

// drawnWalk begins with no row, or with a right one.
func drawnWalk(seed int64) *walk {
	w := &walk{source: rand.New(rand.NewSource(seed)), now: int(seed)%60 - 30}
	if seed%3 == 0 {
		w.l = drawnRight(w.source)
	}
	if seed%10 == 0 {
		w.now = most - 300
	}
	if seed%10 == 1 {
		w.now = least
	}
	charges := []int{1, 2, 3, 5, api.MaxStacks, api.MaxStacks + 1, most, 0}
	cools := []int{-1, 0, 1, 2, 5, 40, api.MaxAmount, most}
	for id := 1; id <= 6; id++ {
		w.all = append(w.all, some(id, charges[w.source.Intn(len(charges))], cools[w.source.Intn(len(cools))]))
	}
	return w
}

// step does one of all that may be done with a row.
func (w *walk) step() string {
	w.now = plainAdd(w.now, w.source.Intn(4))
	switch w.source.Intn(40) {
	case 0, 1:
		w.l = cool.Clean(w.l, w.now)
		return "Clean"
	case 2:
		w.l = cool.Reset(w.l, w.source.Intn(9)-1)
		return "Reset"
	case 3:
		w.l, _ = cool.Use(w.l, some(w.source.Intn(2)-1, 5, 10), w.now)
		return "Use of no ability"
	}
	at := w.source.Intn(len(w.all))
	if w.source.Intn(2) == 0 {
		at = 0
	}
	w.l, _ = cool.Use(w.l, w.all[at], w.now)
	return "Use"
}

func TestP16_5RightStaysRight(t *testing.T) {
	longest, many := 0, 0
	for seed := range int64(300) {
		w := drawnWalk(seed)
		for range 300 {
			before := w.l
			did := w.step()
			if !cool.Right(w.l) || !plainRight(w.l) {
				t.Fatalf("%s at %d: %v became %v", did, w.now, before, w.l)
			}
			for _, c := range w.l {
				longest = max(longest, len(c.Back))
			}
			many = max(many, len(w.l))
		}
	}
	if longest != api.MaxStacks || many < 6 {
		t.Errorf("at most %d Cools, and %d numbers", many, longest)
	}
}

// TestP16_5RightStaysRightAtOnce is of any right row, at any time.
func TestP16_5RightStaysRightAtOnce(t *testing.T) {
	source := rand.New(rand.NewSource(8))
	for range 40000 {
		l, a, now := drawnRight(source), drawnAbility(source), drawnTime(source)
		made, _ := cool.Use(l, a, now)
		for _, m := range [][]api.Cool{l, made, cool.Clean(l, now), cool.Reset(l, a.Id)} {
			if !cool.Right(m) || !plainRight(m) {
				t.Fatalf("%+v at %d: %v became %v", a, now, l, m)
			}
		}
	}
}

// holdsNext holds of a row that Use made that who waits up to Next may use the
// ability, and that who doesn't may not.
func holdsNext(t *testing.T, l []api.Cool, a api.Ability, now int) {
	t.Helper()
	next := cool.Next(l, a, now)
	if next < now || cool.Ready(l, a, next) < 1 {
		t.Fatalf("%v, %+v at %d: none is ready at %d", l, a, now, next)
	}
	if _, ok := cool.Use(l, a, next); !ok {
		t.Fatalf("%v, %+v at %d: it may not be used at %d", l, a, now, next)
	}
	if later := plainAdd(next, 3); cool.Ready(l, a, later) < cool.Ready(l, a, next) {
		t.Fatalf("%v, %+v: fewer are ready at %d than at %d", l, a, later, next)
	}
	if cool.Ready(l, a, now) > 0 {
		if next != now {
			t.Fatalf("%v, %+v at %d: one is ready, but Next is %d", l, a, now, next)
		}
		return
	}
	if next == now || cool.Ready(l, a, next-1) != 0 {
		t.Fatalf("%v, %+v at %d: one is ready ahead of %d", l, a, now, next)
	}
	if _, ok := cool.Use(l, a, next-1); ok {
		t.Fatalf("%v, %+v at %d: it may be used ahead of %d", l, a, now, next)
	}
}

// TestP16_5WaitsUpToNext is of abilities that content may have: such as have
// no more charges than may be away.
func TestP16_5WaitsUpToNext(t *testing.T) {
	source := rand.New(rand.NewSource(9))
	held, waited := 0, 0
	for seed := range 3000 {
		l, now := drawnRight(source), drawnTime(source)
		if seed%2 == 0 {
			l = nil
		}
		charges := []int{1, 1, 2, 3, 4, 100}[source.Intn(6)]
		a := some(1+source.Intn(9), charges, []int{0, 1, 2, 7, 30, 1000000, most}[source.Intn(7)])
		for range 12 {
			made, ok := cool.Use(l, a, now)
			if ok {
				holdsNext(t, made, a, now)
				held++
				if cool.Ready(made, a, now) == 0 {
					waited++
				}
			}
			l, now = made, plainAdd(now, source.Intn(4))
		}
	}
	if held < 10000 || waited < 2000 {
		t.Errorf("only %d rows, of which %d had none ready", held, waited)
	}
}

// TestP16_5ChargesAtOnce uses all charges at one time, and holds that they come
// back one by one.
func TestP16_5ChargesAtOnce(t *testing.T) {
	for _, n := range []int{1, 2, 3, api.MaxStacks - 1, api.MaxStacks} {
		for _, cools := range []int{1, 2, 10, api.MaxAmount} {
			for _, now := range []int{0, 5, -40, 1 << 40, least, most - n*cools} {
				for _, begun := range [][]api.Cool{nil, row(of(1, 3), of(9, upTo(100, -20)...)), row(of(4, least)), row(of(3, 7), of(4, alike(100, least)...), of(5, 8))} {
					a, l := some(4, n, cools), begun
					for i := range n {
						if ready := cool.Ready(l, a, now); ready != n-i {
							t.Fatalf("%d charges, Cool %d, at %d: %d are ready behind %d", n, cools, now, ready, i)
						}
						made, ok := cool.Use(l, a, now)
						if !ok {
							t.Fatalf("%d charges, Cool %d, at %d: none behind %d", n, cools, now, i)
						}
						l = made
					}
					holdsNone(t, l, a, now)
					for k := range n {
						at := now + (k+1)*cools
						if ahead, then := cool.Ready(l, a, at-1), cool.Ready(l, a, at); ahead != k || then != k+1 {
							t.Fatalf("%d charges, Cool %d, at %d: %d are ready at %d, %d one ahead", n, cools, now, then, at, ahead)
						}
					}
					if !same(cool.Reset(l, 4), cool.Reset(begun, 4)) {
						t.Fatalf("%v: others than 4 are not as they were in %v", l, begun)
					}
				}
			}
		}
	}
}

// holdsNone holds that the ability may not be used then.
func holdsNone(t *testing.T, l []api.Cool, a api.Ability, now int) {
	t.Helper()
	if made, ok := cool.Use(l, a, now); ok || !same(made, l) || cool.Ready(l, a, now) != 0 || cool.Next(l, a, now) != now+a.Cool {
		t.Fatalf("%+v at %d may be used of %v", a, now, l)
	}
}

// TestP16_6CleanTurnsNothing asks for all abilities at the time of Clean, and
// at each number's own, later.
func TestP16_6CleanTurnsNothing(t *testing.T) {
	source := rand.New(rand.NewSource(11))
	for range 6000 {
		l, now := drawnRight(source), drawnTime(source)
		made := cool.Clean(l, now)
		times := []int{now, plainAdd(now, 1), plainAdd(now, 2), plainAdd(now, 7), most - 1, most}
		for _, c := range l {
			for _, n := range c.Back {
				times = append(times, plainAdd(n, -1), n, plainAdd(n, 1))
			}
		}
		for _, at := range times {
			if at < now {
				continue
			}
			for id := 1; id <= 10; id++ {
				a := some(id, 1+source.Intn(6), 10)
				if got, want := cool.Ready(made, a, at), cool.Ready(l, a, at); got != want {
					t.Fatalf("%v became %v at %d: %d are ready of %+v at %d, not %d", l, made, now, got, a, at, want)
				}
				if got, want := cool.Next(made, a, at), cool.Next(l, a, at); got != want {
					t.Fatalf("%v became %v at %d: the next of %+v at %d is at %d, not %d", l, made, now, a, at, got, want)
				}
			}
		}
	}
}

// TestP16_6CleanInWalks cleans a row behind each step, and holds that one that
// is never cleaned answers alike.
func TestP16_6CleanInWalks(t *testing.T) {
	for seed := range int64(200) {
		w := drawnWalk(seed)
		cleaned := deep(w.l)
		for range 100 {
			w.now = plainAdd(w.now, w.source.Intn(4))
			a := w.all[w.source.Intn(len(w.all))]
			made, ok := cool.Use(w.l, a, w.now)
			also, alsoOk := cool.Use(cleaned, a, w.now)
			w.l, cleaned = made, cool.Clean(also, w.now)
			if ok != alsoOk || !same(cool.Clean(w.l, w.now), cleaned) {
				t.Fatalf("%+v at %d: %v, %v and %v, %v", a, w.now, w.l, ok, cleaned, alsoOk)
			}
			for _, b := range w.all {
				if cool.Ready(w.l, b, w.now) != cool.Ready(cleaned, b, w.now) {
					t.Fatalf("%+v at %d: %v and %v are not ready alike", b, w.now, w.l, cleaned)
				}
			}
		}
	}
}

func TestP16_Examples(t *testing.T) {
	a := api.Ability{Id: 7, Charges: 2, Cool: 10}
	first, ok := cool.Use(nil, a, 0)
	if told := fmt.Sprint(first, ok); told != "[{7 [10]}] true" {
		t.Error(told)
	}
	second, ok := cool.Use(first, a, 3)
	if told := fmt.Sprint(second, ok); told != "[{7 [10 20]}] true" {
		t.Error(told)
	}
	if told := fmt.Sprint(cool.Ready(second, a, 5), cool.Ready(second, a, 10), cool.Next(second, a, 5)); told != "0 1 10" {
		t.Error(told)
	}
}

// TestW2AsOften is of calls that are made twice, others between: they keep
// nothing.
func TestW2AsOften(t *testing.T) {
	source := rand.New(rand.NewSource(12))
	for range 5000 {
		l, between := drawn(source), drawn(source)
		before := deep(l)
		list, others := calls(l), calls(between)
		one := list[source.Intn(len(list))]
		first, firstOk := one.made(l)
		others[source.Intn(len(others))].made(between)
		again, againOk := one.made(l)
		if !same(first, again) || firstOk != againOk || !same(l, before) {
			t.Fatalf("%s of %v: %v, %v, and then %v, %v", one.name, before, first, firstOk, again, againOk)
		}
	}
}
