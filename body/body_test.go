package body_test

import (
	"fmt"
	"math/big"
	"math/rand"
	"slices"
	"testing"

	"barrow/api"
	"barrow/body"
	"barrow/sat"
)

// someone is a right unit, none of whose fields is as another one, or at an
// end.
func someone() api.Unit {
	return api.Unit{
		Id: 7, Kind: api.UnitFoe, Group: 3,
		Health: 10, MaxHealth: 20, Power: 4, MaxPower: 9,
		At: api.Pos{X: 5, Y: 6}, Casting: 11,
	}
}

// field is one of a unit's fields: its name, and the place at which it stands
// in a unit.
type field struct {
	name string
	of   func(u *api.Unit) *int
}

// parts are all fields of a unit, its Id first, then in the order in which
// Fields tells them.
func parts() []field {
	return []field{
		{"Id", func(u *api.Unit) *int { return &u.Id }},
		{"Kind", func(u *api.Unit) *int { return &u.Kind }},
		{"Group", func(u *api.Unit) *int { return &u.Group }},
		{"Health", func(u *api.Unit) *int { return &u.Health }},
		{"MaxHealth", func(u *api.Unit) *int { return &u.MaxHealth }},
		{"Power", func(u *api.Unit) *int { return &u.Power }},
		{"MaxPower", func(u *api.Unit) *int { return &u.MaxPower }},
		{"At.X", func(u *api.Unit) *int { return &u.At.X }},
		{"At.Y", func(u *api.Unit) *int { return &u.At.Y }},
		{"Casting", func(u *api.Unit) *int { return &u.Casting }},
	}
}

// with answers the unit with the field of that name turned to n.
func with(u api.Unit, name string, n int) api.Unit {
	for _, part := range parts() {
		if part.name == name {
			*part.of(&u) = n
			return u
		}
	}
	panic("no field " + name)
}

// farNumbers are the ends of numbers, what is next to them, what runs over
// into small numbers, and the ends of parts.
func farNumbers() []int {
	return []int{
		api.MinInt, api.MinInt + 1, api.MaxInt, api.MaxInt - 1,
		1 << 32, 1<<32 + 1, 1<<32 + 2, -1 << 32, 1<<62 + 1, -1 << 62,
		api.MaxPart, api.MaxPart + 1, -api.MaxPart, -api.MaxPart - 1, api.MaxPart - 1,
	}
}

// numbers are small ones, far ones, and those around the limits.
func numbers() []int {
	list := append(farNumbers(), api.MaxAmount-1, api.MaxAmount, api.MaxAmount+1, -api.MaxAmount, -api.MaxAmount-1)
	for n := -12; n <= 130; n++ {
		list = append(list, n)
	}
	return list
}

// plainRight tells of a unit whether it is right: it looks for what may not
// be.
func plainRight(u api.Unit) bool {
	wrong := []bool{
		u.Id < 1, u.Kind < 1, u.Kind > 2, u.Group < 0, u.Group > 8,
		u.MaxHealth < 1, u.MaxHealth > 1000000, u.MaxPower < 0, u.MaxPower > 1000000,
		u.Health < 0, u.Health > u.MaxHealth, u.Power < 0, u.Power > u.MaxPower,
		u.Casting < 0,
	}
	return !slices.Contains(wrong, true)
}

// plainLess is n, if that is from 0 to most; else the end that it is beyond.
// Numbers of any length tell it.
func plainLess(n, most int) int {
	wide, top := big.NewInt(int64(n)), big.NewInt(int64(most))
	switch {
	case wide.Sign() < 0:
		return 0
	case wide.Cmp(top) > 0:
		return most
	}
	return n
}

// plainPart is a part as layer 1 has it, by numbers of any length.
func plainPart(a, num, den int) int {
	wide := func(n int) *big.Int {
		return big.NewInt(int64(min(max(n, -api.MaxPart), api.MaxPart)))
	}
	product := new(big.Int).Mul(wide(a), wide(num))
	return int(product.Quo(product, big.NewInt(int64(den))).Int64())
}

func plainHurt(u api.Unit, n int) (api.Unit, int) {
	if !plainRight(u) {
		return u, 0
	}
	much := plainLess(n, u.Health)
	u.Health -= much
	if u.Health == 0 {
		u.Casting = 0
	}
	return u, much
}

func plainHeal(u api.Unit, n int) (api.Unit, int) {
	if !plainRight(u) || u.Health == 0 || n < 0 {
		return u, 0
	}
	much := plainLess(n, u.MaxHealth-u.Health)
	u.Health += much
	return u, much
}

func plainGain(u api.Unit, n int) (api.Unit, int) {
	if !plainRight(u) || u.Health == 0 || n < 0 {
		return u, 0
	}
	much := plainLess(n, u.MaxPower-u.Power)
	u.Power += much
	return u, much
}

func plainSpend(u api.Unit, n int) (api.Unit, bool) {
	if !plainRight(u) || u.Health == 0 || n < 0 || n > u.Power {
		return u, false
	}
	u.Power -= n
	return u, true
}

func plainRaise(u api.Unit) (api.Unit, bool) {
	if !plainRight(u) || u.Health > 0 {
		return u, false
	}
	u.Health = plainPart(u.MaxHealth, 1, 2)
	if u.Health == 0 {
		u.Health = 1
	}
	return u, true
}

// rightOnes are right units at the ends of what each field may be.
func rightOnes() []api.Unit {
	var list []api.Unit
	for _, most := range []int{1, 2, 3, 7, 20, 99, 100, 101, api.MaxAmount - 1, api.MaxAmount} {
		for _, health := range []int{0, 1, most / 2, most - 1, most} {
			for _, casting := range []int{0, 1, api.MaxInt} {
				u := someone()
				u.MaxHealth, u.Health, u.Casting = most, health, casting
				list = append(list, u)
				u.MaxPower, u.Power = most, most-health
				list = append(list, u)
				u.MaxPower, u.Power = 0, 0
				list = append(list, u)
			}
		}
	}
	for _, far := range numbers() {
		list = append(list, with(someone(), "At.X", far), with(someone(), "At.Y", far))
	}
	for group := range api.MaxGroups + 1 {
		for _, kind := range []int{api.UnitHero, api.UnitFoe} {
			list = append(list, api.Unit{Id: 1 + group, Kind: kind, Group: group, MaxHealth: 1, Health: 1})
			list = append(list, api.Unit{Id: api.MaxInt - group, Kind: kind, Group: group, MaxHealth: 5})
		}
	}
	return list
}

// wrong is a unit that is not right, and why.
type wrong struct {
	why string
	u   api.Unit
}

// wrongOnes are units that are not right for one reason alone each, living and
// dead ones, and some for many.
func wrongOnes() []wrong {
	beyond := map[string][]int{
		"Id":        {0, -1},
		"Kind":      {0, -1, 3, 4, 257},
		"Group":     {-1, 9, 10, 256},
		"MaxHealth": {0, -1, api.MaxAmount + 1, 9},
		"Health":    {-1, 21, 22},
		"MaxPower":  {-1, api.MaxAmount + 1, 3},
		"Power":     {-1, 10, 11},
		"Casting":   {-1, -2},
	}
	var list []wrong
	for _, part := range parts() {
		for _, n := range append(beyond[part.name], farNumbers()...) {
			for _, health := range []int{10, 0, 20} {
				u := someone()
				u.Health = health
				*part.of(&u) = n
				if !plainRight(u) {
					list = append(list, wrong{fmt.Sprintf("%s %d", part.name, n), u})
				}
			}
		}
	}
	dead := someone()
	dead.MaxHealth, dead.Health = 0, 0
	return append(list,
		wrong{"nothing", api.Unit{}},
		wrong{"an Id alone", api.Unit{Id: 1}},
		wrong{"no MaxHealth, and no Health", dead},
		wrong{"all at the least", body.From(api.MinInt, filled(api.MinInt))},
		wrong{"all at the greatest", body.From(api.MaxInt, filled(api.MaxInt))},
		wrong{"all below nought", body.From(-1, filled(-1))},
	)
}

// filled are fields, all alike.
func filled(n int) [9]int {
	var f [9]int
	for i := range f {
		f[i] = n
	}
	return f
}

// drawn is a unit drawn so that it is often right, and often at an end.
func drawn(source *rand.Rand) api.Unit {
	end := func(most int) int {
		switch source.Intn(4) {
		case 0:
			return 0
		case 1:
			return most
		}
		return source.Intn(most + 1)
	}
	u := api.Unit{
		Id: 1 + source.Intn(5), Kind: 1 + source.Intn(2), Group: source.Intn(9),
		MaxHealth: 1 + end(30), MaxPower: end(30),
		At: api.Pos{X: source.Intn(300) - 20, Y: source.Intn(300) - 20}, Casting: source.Intn(4),
	}
	if source.Intn(5) == 0 {
		u.MaxHealth, u.MaxPower = api.MaxAmount-end(10), api.MaxAmount-end(10)
	}
	u.Health, u.Power = end(u.MaxHealth), end(u.MaxPower)
	if source.Intn(4) == 0 {
		all := parts()
		*all[source.Intn(len(all))].of(&u) = someNumber(source)
	}
	return u
}

// someNumber is a small one, mostly.
func someNumber(source *rand.Rand) int {
	switch all := numbers(); source.Intn(3) {
	case 0:
		return all[source.Intn(len(all))]
	case 1:
		return source.Intn(12) - 1
	}
	return source.Intn(40) - 1
}

func TestP13_1RightByField(t *testing.T) {
	cases := []struct {
		name  string
		right []int
		wrong []int
	}{
		{"Id", []int{1, 2, 64, 65, 1 << 32, api.MaxInt - 1, api.MaxInt}, []int{0, -1, -7, api.MinInt, api.MinInt + 1}},
		{"Kind", []int{api.UnitHero, api.UnitFoe}, []int{0, 3, -1, -2, 4, 257, 258, 1<<32 + 1, 1<<32 + 2, api.MinInt, api.MaxInt}},
		{"Group", []int{0, 1, 7, 8}, []int{-1, 9, 10, 256, 1 << 32, api.MinInt, api.MaxInt}},
		{"MaxHealth", []int{10, 11, 20, api.MaxAmount - 1, api.MaxAmount}, []int{9, 1, 0, -1, -20, api.MaxAmount + 1, api.MaxPart, 1<<32 + 20, api.MinInt, api.MaxInt}},
		{"Health", []int{0, 1, 19, 20}, []int{-1, 21, 22, api.MaxAmount, 1<<32 + 10, api.MinInt, api.MaxInt}},
		{"MaxPower", []int{4, 5, api.MaxAmount - 1, api.MaxAmount}, []int{3, 0, -1, -9, api.MaxAmount + 1, api.MaxPart, 1<<32 + 9, api.MinInt, api.MaxInt}},
		{"Power", []int{0, 1, 8, 9}, []int{-1, 10, 11, api.MaxAmount, 1<<32 + 4, api.MinInt, api.MaxInt}},
		{"Casting", []int{0, 1, 64, api.MaxAmount + 1, 1 << 32, api.MaxInt - 1, api.MaxInt}, []int{-1, -2, api.MinInt + 1, api.MinInt}},
		{"At.X", numbers(), nil},
		{"At.Y", numbers(), nil},
	}
	for _, c := range cases {
		for _, n := range c.right {
			if !body.Right(with(someone(), c.name, n)) {
				t.Errorf("%s %d: it is not right", c.name, n)
			}
		}
		for _, n := range c.wrong {
			if body.Right(with(someone(), c.name, n)) {
				t.Errorf("%s %d: it is right", c.name, n)
			}
		}
	}
}

// TestP13_1RightAtTheEnds is of what hangs on a Max, at its ends.
func TestP13_1RightAtTheEnds(t *testing.T) {
	cases := []struct {
		health, maxHealth, power, maxPower int
		want                               bool
	}{
		{0, 1, 0, 0, true}, {1, 1, 0, 0, true}, {2, 1, 0, 0, false}, {-1, 1, 0, 0, false},
		{1, 1, 1, 0, false}, {1, 1, -1, 0, false}, {1, 1, 0, -1, false}, {1, 1, -1, -1, false},
		{0, 0, 0, 0, false}, {1, 0, 0, 0, false}, {-1, -1, 0, 0, false}, {-2, -1, 0, 0, false},
		{api.MaxAmount, api.MaxAmount, api.MaxAmount, api.MaxAmount, true},
		{api.MaxAmount + 1, api.MaxAmount, 0, 0, false},
		{0, api.MaxAmount, api.MaxAmount + 1, api.MaxAmount, false},
		{api.MaxAmount + 1, api.MaxAmount + 1, 0, 0, false},
		{1, api.MaxAmount + 1, 0, 0, false},
		{1, 1, api.MaxAmount + 1, api.MaxAmount + 1, false},
		{1, 1, 0, api.MaxAmount + 1, false},
		{0, 20, 0, 9, true}, {20, 20, 9, 9, true}, {9, 20, 9, 9, true}, {9, 9, 10, 20, true},
		{10, 9, 10, 20, false}, {9, 20, 10, 9, false},
		{api.MinInt, 20, 0, 9, false}, {0, api.MinInt, 0, 9, false}, {0, 20, api.MinInt, 9, false}, {0, 20, 0, api.MinInt, false},
		{api.MaxInt, api.MaxInt, 0, 9, false}, {0, 20, api.MaxInt, api.MaxInt, false},
		{api.MinInt, api.MinInt, 0, 9, false}, {0, 20, api.MinInt, api.MinInt, false},
	}
	for _, c := range cases {
		u := someone()
		u.Health, u.MaxHealth, u.Power, u.MaxPower = c.health, c.maxHealth, c.power, c.maxPower
		if body.Right(u) != c.want {
			t.Errorf("%+v: %v", u, !c.want)
		}
	}
}

func TestP13_1RightAsTold(t *testing.T) {
	for _, u := range rightOnes() {
		if !plainRight(u) || !body.Right(u) {
			t.Errorf("%+v: it is not right", u)
		}
	}
	for _, w := range wrongOnes() {
		if plainRight(w.u) || body.Right(w.u) {
			t.Errorf("%s: %+v: it is right", w.why, w.u)
		}
	}
	source := rand.New(rand.NewSource(1))
	right := 0
	for range 200000 {
		u := drawn(source)
		want := plainRight(u)
		if want {
			right++
		}
		if body.Right(u) != want {
			t.Fatalf("%+v: %v", u, !want)
		}
	}
	if right < 50000 || right > 190000 {
		t.Errorf("%d of the drawn ones were right", right)
	}
}

// withHealth are units of that health, right or not.
func withHealth(health int) []api.Unit {
	list := []api.Unit{
		{Health: health},
		{Health: health, MaxHealth: api.MaxInt},
		{Health: health, MaxHealth: api.MinInt},
		with(someone(), "Health", health),
	}
	for _, w := range wrongOnes() {
		list = append(list, with(w.u, "Health", health))
	}
	return list
}

func TestP13_1Dead(t *testing.T) {
	for _, health := range append(numbers(), 1, 0, -1) {
		for _, u := range withHealth(health) {
			if body.Dead(u) != (health <= 0) {
				t.Errorf("%+v: %v", u, body.Dead(u))
			}
		}
	}
	for _, u := range rightOnes() {
		if body.Dead(u) != (u.Health == 0) {
			t.Errorf("%+v: %v", u, body.Dead(u))
		}
	}
}

func TestP13_1BelowByCases(t *testing.T) {
	cases := []struct {
		health, most, part int
		want               bool
	}{
		{10, 20, 50, true}, {10, 20, 49, false}, {11, 20, 50, false}, {9, 20, 50, true},
		{0, 20, 0, true}, {1, 20, 0, false}, {-1, 20, 0, true},
		{0, 20, 1, true}, {1, 20, 1, false}, {-1, 20, 1, true},
		{1, 100, 1, true}, {2, 100, 1, false},
		{19, 20, 99, true}, {20, 20, 99, false}, {99, 100, 99, true}, {100, 100, 99, false},
		{20, 20, 100, true}, {21, 20, 100, false},
		{20, 20, 101, true}, {21, 20, 105, true}, {22, 20, 105, false}, {40, 20, 200, true}, {41, 20, 200, false},
		{0, 20, -1, true}, {1, 20, -1, false},
		{0, 20, -5, false}, {-1, 20, -5, true}, {-1, 20, -9, true}, {-1, 20, -10, false}, {-2, 20, -10, true},
		{2, 7, 33, true}, {3, 7, 33, false}, {3, 7, 42, false}, {3, 7, 43, true}, {2, 7, 42, true},
		{6, 7, 99, true}, {7, 7, 99, false}, {0, 1, 99, true}, {1, 1, 99, false}, {1, 1, 100, true},
		{333, 999, 33, false}, {329, 999, 33, true}, {330, 999, 33, false},
		{api.MaxAmount, api.MaxAmount, 100, true}, {api.MaxAmount, api.MaxAmount, 99, false},
		{990000, api.MaxAmount, 99, true}, {990001, api.MaxAmount, 99, false},
		{20, 20, api.MaxInt, true}, {0, 20, api.MinInt, false}, {20, 20, api.MaxPart, true}, {0, 20, -api.MaxPart, false},
		{429496729, 20, api.MaxInt, true}, {429496730, 20, api.MaxInt, false},
		{429496729, 20, api.MaxPart, true}, {429496730, 20, api.MaxPart, false}, {429496730, 20, api.MaxPart + 1, false},
		{-429496729, 20, api.MinInt, true}, {-429496728, 20, api.MinInt, false},
		{-429496729, 20, -api.MaxPart - 1, true}, {-429496728, 20, -api.MaxPart - 1, false},
		{api.MaxPart, api.MaxInt, 100, true}, {api.MaxPart + 1, api.MaxInt, 100, false}, {api.MaxInt, api.MaxInt, 100, false},
		{-api.MaxPart, api.MinInt, 100, true}, {-api.MaxPart + 1, api.MinInt, 100, false}, {api.MinInt, api.MinInt, 100, true},
		{0, 0, 100, true}, {1, 0, 100, false}, {0, 0, 0, true}, {-1, 0, 50, true},
		{-1, -20, 5, true}, {0, -20, 5, false}, {1, -20, -5, true}, {2, -20, -5, false},
		{api.MinInt, 20, api.MinInt, true}, {api.MaxInt, 20, api.MaxInt, false},
	}
	for _, c := range cases {
		for _, u := range []api.Unit{someone(), {}, {Id: -1, Kind: 9, Group: -1, Power: -1, Casting: -1}} {
			u.Health, u.MaxHealth = c.health, c.most
			if body.Below(u, c.part) != c.want {
				t.Errorf("Below(%+v, %d): %v", u, c.part, !c.want)
			}
		}
	}
}

func TestP13_1BelowAsTold(t *testing.T) {
	check := func(u api.Unit, part int) {
		t.Helper()
		line := plainPart(u.MaxHealth, part, 100)
		if sat.Part(u.MaxHealth, part, 100) != line {
			t.Fatalf("a part of %d, %d: %d", u.MaxHealth, part, sat.Part(u.MaxHealth, part, 100))
		}
		for _, health := range []int{u.Health, line - 1, line, line + 1, -line} {
			u.Health = health
			if want := health <= line; body.Below(u, part) != want {
				t.Fatalf("Below(%+v, %d): %v", u, part, !want)
			}
		}
	}
	for _, u := range rightOnes() {
		for _, part := range numbers() {
			check(u, part)
		}
	}
	for _, w := range wrongOnes() {
		for _, part := range numbers() {
			check(w.u, part)
		}
	}
	source := rand.New(rand.NewSource(2))
	for range 50000 {
		check(drawn(source), someNumber(source))
	}
}

func TestP13_2HurtByCases(t *testing.T) {
	cases := []struct {
		health, n, left, much int
	}{
		{10, 0, 10, 0}, {10, 1, 9, 1}, {10, -1, 10, 0}, {10, 9, 1, 9}, {10, 10, 0, 10}, {10, 11, 0, 10}, {10, 15, 0, 10},
		{20, 19, 1, 19}, {20, 20, 0, 20}, {20, 21, 0, 20}, {1, 0, 1, 0}, {1, 1, 0, 1}, {1, 2, 0, 1},
		{10, api.MaxInt, 0, 10}, {10, api.MaxInt - 1, 0, 10}, {10, api.MinInt, 10, 0}, {10, api.MinInt + 1, 10, 0}, {10, -10, 10, 0},
		{20, api.MaxInt, 0, 20}, {20, api.MinInt, 20, 0}, {10, 1 << 32, 0, 10}, {10, 1<<32 + 1, 0, 10}, {10, -1 << 32, 10, 0},
		{0, 0, 0, 0}, {0, 1, 0, 0}, {0, -1, 0, 0}, {0, api.MaxInt, 0, 0}, {0, api.MinInt, 0, 0},
	}
	for _, c := range cases {
		for _, casting := range []int{0, 1, 11, api.MaxInt} {
			u := someone()
			u.Health, u.Casting = c.health, casting
			want := u
			want.Health = c.left
			if c.left == 0 {
				want.Casting = 0
			}
			if got, much := body.Hurt(u, c.n); got != want || much != c.much {
				t.Errorf("Hurt(%+v, %d): %+v, %d, not %+v, %d", u, c.n, got, much, want, c.much)
			}
		}
	}
}

func TestP13_2HealByCases(t *testing.T) {
	cases := []struct {
		health, n, after, much int
	}{
		{10, 0, 10, 0}, {10, 1, 11, 1}, {10, -1, 10, 0}, {10, 9, 19, 9}, {10, 10, 20, 10}, {10, 11, 20, 10}, {10, 15, 20, 10},
		{1, 18, 19, 18}, {1, 19, 20, 19}, {1, 20, 20, 19}, {19, 0, 19, 0}, {19, 1, 20, 1}, {19, 2, 20, 1},
		{20, 0, 20, 0}, {20, 1, 20, 0}, {20, -1, 20, 0}, {20, api.MaxInt, 20, 0}, {20, api.MinInt, 20, 0},
		{10, api.MaxInt, 20, 10}, {10, api.MaxInt - 1, 20, 10}, {10, api.MaxInt - 10, 20, 10}, {10, api.MaxInt - 9, 20, 10},
		{10, api.MinInt, 10, 0}, {10, api.MinInt + 1, 10, 0}, {10, -10, 10, 0}, {10, -11, 10, 0}, {10, 1 << 32, 20, 10}, {10, -1 << 32, 10, 0},
		{0, 0, 0, 0}, {0, 1, 0, 0}, {0, -1, 0, 0}, {0, 20, 0, 0}, {0, api.MaxInt, 0, 0}, {0, api.MinInt, 0, 0},
	}
	for _, c := range cases {
		u := with(someone(), "Health", c.health)
		want := with(someone(), "Health", c.after)
		if got, much := body.Heal(u, c.n); got != want || much != c.much {
			t.Errorf("Heal(%+v, %d): %+v, %d, not %+v, %d", u, c.n, got, much, want, c.much)
		}
	}
}

func TestP13_2GainByCases(t *testing.T) {
	cases := []struct {
		health, power, most, n, after, much int
	}{
		{10, 4, 9, 0, 4, 0}, {10, 4, 9, 1, 5, 1}, {10, 4, 9, -1, 4, 0}, {10, 4, 9, 4, 8, 4}, {10, 4, 9, 5, 9, 5}, {10, 4, 9, 6, 9, 5},
		{10, 0, 9, 8, 8, 8}, {10, 0, 9, 9, 9, 9}, {10, 0, 9, 10, 9, 9}, {1, 8, 9, 0, 8, 0}, {1, 8, 9, 1, 9, 1}, {1, 8, 9, 2, 9, 1},
		{10, 9, 9, 0, 9, 0}, {10, 9, 9, 1, 9, 0}, {10, 9, 9, -1, 9, 0}, {20, 9, 9, api.MaxInt, 9, 0}, {20, 9, 9, api.MinInt, 9, 0},
		{10, 0, 0, 0, 0, 0}, {10, 0, 0, 1, 0, 0}, {10, 0, 0, -1, 0, 0}, {10, 0, 0, api.MaxInt, 0, 0}, {10, 0, 0, api.MinInt, 0, 0},
		{10, 4, 9, api.MaxInt, 9, 5}, {10, 4, 9, api.MaxInt - 4, 9, 5}, {10, 4, 9, api.MaxInt - 3, 9, 5},
		{10, 4, 9, api.MinInt, 4, 0}, {10, 4, 9, api.MinInt + 1, 4, 0}, {10, 4, 9, -4, 4, 0}, {10, 4, 9, -5, 4, 0}, {10, 4, 9, 1 << 32, 9, 5},
		{10, 4, 50, 46, 50, 46}, {10, 4, 50, 45, 49, 45}, {20, 19, 50, 2, 21, 2},
		{0, 4, 9, 0, 4, 0}, {0, 4, 9, 1, 4, 0}, {0, 4, 9, -1, 4, 0}, {0, 4, 9, api.MaxInt, 4, 0}, {0, 4, 9, api.MinInt, 4, 0},
	}
	for _, c := range cases {
		u := someone()
		u.Health, u.Power, u.MaxPower = c.health, c.power, c.most
		want := u
		want.Power = c.after
		if got, much := body.Gain(u, c.n); got != want || much != c.much {
			t.Errorf("Gain(%+v, %d): %+v, %d, not %+v, %d", u, c.n, got, much, want, c.much)
		}
	}
}

// TestP13_2TheDeadCastNothing is of units that are dead already, with a
// Casting above 0: whatever hurts them, they cast nothing then. What does not
// hurt lets it be.
func TestP13_2TheDeadCastNothing(t *testing.T) {
	for _, casting := range []int{1, 2, 11, api.MaxInt} {
		dead := someone()
		dead.Health, dead.Casting = 0, casting
		for _, n := range numbers() {
			if got, much := body.Hurt(dead, n); got != with(dead, "Casting", 0) || much != 0 {
				t.Errorf("Hurt by %d: %+v, %d", n, got, much)
			}
			if got, much := body.Heal(dead, n); got != dead || much != 0 {
				t.Errorf("Heal by %d: %+v, %d", n, got, much)
			}
			if got, much := body.Gain(dead, n); got != dead || much != 0 {
				t.Errorf("Gain of %d: %+v, %d", n, got, much)
			}
			if got, ok := body.Spend(dead, n); got != dead || ok {
				t.Errorf("Spend of %d: %+v, %v", n, got, ok)
			}
		}
		if got, ok := body.Raise(dead); got != with(dead, "Health", 10) || !ok {
			t.Errorf("Raise: %+v, %v", got, ok)
		}
	}
}

// TestP13_2OneByOne holds hurts, heals and gains to so many of 1.
func TestP13_2OneByOne(t *testing.T) {
	calls := []struct {
		name string
		call func(u api.Unit, n int) (api.Unit, int)
	}{{"Hurt", body.Hurt}, {"Heal", body.Heal}, {"Gain", body.Gain}}
	for _, c := range calls {
		for health := range 21 {
			for power := range 10 {
				u := someone()
				u.Health, u.Power = health, power
				want, sum := u, 0
				if c.name == "Hurt" && health == 0 {
					want.Casting = 0
				}
				for n := range 30 {
					got, much := c.call(u, n)
					if got != want || much != sum {
						t.Fatalf("%s(%+v, %d): %+v, %d, not %+v, %d", c.name, u, n, got, much, want, sum)
					}
					next, one := c.call(want, 1)
					want, sum = next, sum+one
				}
			}
		}
	}
}

// checkTurns holds the five that turn a unit against the plain telling.
func checkTurns(t *testing.T, u api.Unit, n int) {
	t.Helper()
	check := func(name string, got, want any) {
		t.Helper()
		if got != want {
			t.Fatalf("%s(%+v, %d): %+v, not %+v", name, u, n, got, want)
		}
	}
	type much struct {
		u    api.Unit
		much int
	}
	type done struct {
		u    api.Unit
		done bool
	}
	asMuch := func(u api.Unit, n int) much { return much{u, n} }
	asDone := func(u api.Unit, ok bool) done { return done{u, ok} }
	check("Hurt", asMuch(body.Hurt(u, n)), asMuch(plainHurt(u, n)))
	check("Heal", asMuch(body.Heal(u, n)), asMuch(plainHeal(u, n)))
	check("Gain", asMuch(body.Gain(u, n)), asMuch(plainGain(u, n)))
	check("Spend", asDone(body.Spend(u, n)), asDone(plainSpend(u, n)))
	check("Raise", asDone(body.Raise(u)), asDone(plainRaise(u)))
}

// around are the numbers, and those just at what a unit has and is missing.
func around(u api.Unit) []int {
	list := numbers()
	for _, n := range []int{u.Health, u.MaxHealth - u.Health, u.Power, u.MaxPower - u.Power, u.MaxHealth, u.MaxPower} {
		list = append(list, n-1, n, n+1, -n)
	}
	return list
}

func TestP13_2And3AsTold(t *testing.T) {
	for _, u := range rightOnes() {
		for _, n := range around(u) {
			checkTurns(t, u, n)
		}
	}
	for _, w := range wrongOnes() {
		for _, n := range around(w.u) {
			checkTurns(t, w.u, n)
		}
	}
	source := rand.New(rand.NewSource(3))
	for range 100000 {
		checkTurns(t, drawn(source), someNumber(source))
	}
}

func TestP13_3SpendByCases(t *testing.T) {
	cases := []struct {
		health, power, most, n, left int
		ok                           bool
	}{
		{10, 4, 9, 0, 4, true}, {10, 4, 9, 1, 3, true}, {10, 4, 9, -1, 4, false},
		{10, 4, 9, 3, 1, true}, {10, 4, 9, 4, 0, true}, {10, 4, 9, 5, 4, false}, {10, 4, 9, 9, 4, false},
		{10, 9, 9, 9, 0, true}, {10, 9, 9, 8, 1, true}, {10, 9, 9, 10, 9, false},
		{10, 0, 9, 0, 0, true}, {10, 0, 9, 1, 0, false}, {10, 0, 9, -1, 0, false},
		{10, 0, 0, 0, 0, true}, {10, 0, 0, 1, 0, false}, {10, 0, 0, -1, 0, false},
		{1, 4, 9, 4, 0, true}, {20, 4, 9, 4, 0, true}, {1, 19, 30, 15, 4, true},
		{10, 4, 9, api.MaxInt, 4, false}, {10, 4, 9, api.MinInt, 4, false}, {10, 4, 9, api.MinInt + 4, 4, false}, {10, 4, 9, -4, 4, false},
		{10, 4, 9, 1 << 32, 4, false}, {10, 4, 9, 1<<32 + 4, 4, false}, {10, 4, 9, -1 << 32, 4, false},
		{10, api.MaxAmount, api.MaxAmount, api.MaxAmount, 0, true}, {10, api.MaxAmount, api.MaxAmount, api.MaxAmount + 1, api.MaxAmount, false},
		{0, 4, 9, 0, 4, false}, {0, 4, 9, 1, 4, false}, {0, 4, 9, 4, 4, false}, {0, 4, 9, -1, 4, false},
		{0, 4, 9, api.MaxInt, 4, false}, {0, 4, 9, api.MinInt, 4, false}, {0, 0, 9, 0, 0, false},
	}
	for _, c := range cases {
		u := someone()
		u.Health, u.Power, u.MaxPower = c.health, c.power, c.most
		if got, ok := body.Spend(u, c.n); got != with(u, "Power", c.left) || ok != c.ok {
			t.Errorf("Spend(%+v, %d): %+v, %v, not %d, %v", u, c.n, got, ok, c.left, c.ok)
		}
	}
}

func TestP13_3RaiseByCases(t *testing.T) {
	cases := []struct {
		most, health int
	}{
		{1, 1}, {2, 1}, {3, 1}, {4, 2}, {5, 2}, {19, 9}, {20, 10}, {100, 50}, {101, 50},
		{api.MaxAmount - 1, 499999}, {api.MaxAmount, 500000},
	}
	for _, c := range cases {
		for _, casting := range []int{0, 11} {
			u := someone()
			u.MaxHealth, u.Health, u.Casting = c.most, 0, casting
			if got, ok := body.Raise(u); got != with(u, "Health", c.health) || !ok {
				t.Errorf("Raise(%+v): %+v, %v, not %d", u, got, ok, c.health)
			}
			for _, health := range []int{1, c.most/2 + 1, c.most} {
				u.Health = min(health, c.most)
				if got, ok := body.Raise(u); got != u || ok {
					t.Errorf("Raise(%+v): %+v, %v", u, got, ok)
				}
			}
		}
	}
}

// TestP13_2And3NotRight is of units that are not right, for each reason in
// turn.
func TestP13_2And3NotRight(t *testing.T) {
	for _, w := range wrongOnes() {
		for _, n := range around(w.u) {
			if got, much := body.Hurt(w.u, n); got != w.u || much != 0 {
				t.Fatalf("%s: Hurt(%+v, %d): %+v, %d", w.why, w.u, n, got, much)
			}
			if got, much := body.Heal(w.u, n); got != w.u || much != 0 {
				t.Fatalf("%s: Heal(%+v, %d): %+v, %d", w.why, w.u, n, got, much)
			}
			if got, much := body.Gain(w.u, n); got != w.u || much != 0 {
				t.Fatalf("%s: Gain(%+v, %d): %+v, %d", w.why, w.u, n, got, much)
			}
			if got, ok := body.Spend(w.u, n); got != w.u || ok {
				t.Fatalf("%s: Spend(%+v, %d): %+v, %v", w.why, w.u, n, got, ok)
			}
		}
		if got, ok := body.Raise(w.u); got != w.u || ok {
			t.Fatalf("%s: Raise(%+v): %+v, %v", w.why, w.u, got, ok)
		}
	}
}

func TestP13_4FieldsByCases(t *testing.T) {
	if got, want := body.Fields(someone()), [9]int{2, 3, 10, 20, 4, 9, 5, 6, 11}; got != want {
		t.Errorf("%v, not %v", got, want)
	}
	if got := body.From(7, [9]int{2, 3, 10, 20, 4, 9, 5, 6, 11}); got != someone() {
		t.Errorf("%+v, not %+v", got, someone())
	}
	if got := body.Fields(api.Unit{}); got != [9]int{} {
		t.Errorf("of nothing: %v", got)
	}
	if got := body.From(0, [9]int{}); got != (api.Unit{}) {
		t.Errorf("of nothing: %+v", got)
	}
	if got := len(body.Fields(someone())); got != api.Fields {
		t.Errorf("%d fields", got)
	}
}

// TestP13_4EachInItsPlace has one field alone, and all but one.
func TestP13_4EachInItsPlace(t *testing.T) {
	for place, part := range parts()[1:] {
		for _, n := range numbers() {
			var alone api.Unit
			*part.of(&alone) = n
			var f [9]int
			f[place] = n
			if got := body.Fields(alone); got != f {
				t.Errorf("%s alone: %v, not %v", part.name, got, f)
			}
			if got := body.From(0, f); got != alone {
				t.Errorf("%s alone: %+v, not %+v", part.name, got, alone)
			}
			beside := with(someone(), part.name, n)
			g := [9]int{2, 3, 10, 20, 4, 9, 5, 6, 11}
			g[place] = n
			if got := body.Fields(beside); got != g {
				t.Errorf("%s: %v, not %v", part.name, got, g)
			}
			if got := body.From(7, g); got != beside {
				t.Errorf("%s: %+v, not %+v", part.name, got, beside)
			}
		}
	}
	for _, n := range numbers() {
		if got := body.Fields(api.Unit{Id: n}); got != [9]int{} {
			t.Errorf("Id %d: %v", n, got)
		}
		if got := body.From(n, [9]int{}); got != (api.Unit{Id: n}) {
			t.Errorf("Id %d: %+v", n, got)
		}
	}
}

func TestP13_4EachOthers(t *testing.T) {
	check := func(u api.Unit) {
		t.Helper()
		if got := body.From(u.Id, body.Fields(u)); got != u {
			t.Fatalf("%+v, not %+v", got, u)
		}
	}
	for _, u := range rightOnes() {
		check(u)
	}
	for _, w := range wrongOnes() {
		check(w.u)
	}
	source := rand.New(rand.NewSource(4))
	for range 50000 {
		check(drawn(source))
		var f [9]int
		for i := range f {
			f[i] = int(source.Uint64())
		}
		id := int(source.Uint64())
		u := body.From(id, f)
		if got := body.Fields(u); got != f || u.Id != id {
			t.Fatalf("%d, %v, not %d, %v", u.Id, got, id, f)
		}
		check(u)
	}
}

// step is one of the five, and how the unit is after it.
func step(source *rand.Rand, u api.Unit) (string, int, api.Unit) {
	n := someNumber(source)
	switch source.Intn(6) {
	case 0:
		after, _ := body.Hurt(u, n)
		return "Hurt", n, after
	case 1:
		after, _ := body.Hurt(u, source.Intn(4))
		return "a small Hurt", n, after
	case 2:
		after, _ := body.Heal(u, n)
		return "Heal", n, after
	case 3:
		after, _ := body.Gain(u, n)
		return "Gain", n, after
	case 4:
		after, _ := body.Spend(u, n)
		return "Spend", n, after
	}
	after, _ := body.Raise(u)
	return "Raise", n, after
}

func TestP13_5StaysRight(t *testing.T) {
	source := rand.New(rand.NewSource(5))
	dead, full := 0, 0
	for _, first := range rightOnes() {
		u := first
		for range 400 {
			if body.Dead(u) {
				dead++
			}
			if u.Health == u.MaxHealth {
				full++
			}
			name, n, after := step(source, u)
			if !body.Right(after) || !plainRight(after) {
				t.Fatalf("%s by %d: %+v came of %+v", name, n, after, u)
			}
			if after.Health < 0 || after.Health > first.MaxHealth || after.Power < 0 || after.Power > first.MaxPower {
				t.Fatalf("%s by %d: %+v came of %+v", name, n, after, u)
			}
			kept := after
			kept.Health, kept.Power, kept.Casting = first.Health, first.Power, first.Casting
			if kept != first || after.Casting != first.Casting && after.Casting != 0 {
				t.Fatalf("%s by %d: %+v came of %+v", name, n, after, first)
			}
			u = after
		}
	}
	if dead < 1000 || full < 1000 {
		t.Errorf("only %d were dead, %d were full", dead, full)
	}
}

// TestP13_5AfterEachCall is of each call at any number, once.
func TestP13_5AfterEachCall(t *testing.T) {
	for _, u := range rightOnes() {
		for _, n := range around(u) {
			hurt, _ := body.Hurt(u, n)
			healed, _ := body.Heal(u, n)
			gained, _ := body.Gain(u, n)
			spent, _ := body.Spend(u, n)
			raised, _ := body.Raise(u)
			for _, after := range []api.Unit{hurt, healed, gained, spent, raised} {
				if !body.Right(after) || after.Health < 0 || after.Health > after.MaxHealth {
					t.Fatalf("%+v, %d: %+v", u, n, after)
				}
			}
		}
	}
}

// TestP13_6HurtAndHealed heals by what the hurt was asked for, and by what
// came of it.
func TestP13_6HurtAndHealed(t *testing.T) {
	lived, died := 0, 0
	check := func(u api.Unit, n int) {
		t.Helper()
		hurt, much := body.Hurt(u, n)
		for _, back := range []int{n, much} {
			healed, gotten := body.Heal(hurt, back)
			switch {
			case body.Dead(hurt):
				died++
				if healed != hurt || gotten != 0 {
					t.Fatalf("%+v, hurt by %d, healed by %d: %+v, %d", u, n, back, healed, gotten)
				}
			case healed != u || gotten != much:
				t.Fatalf("%+v, hurt by %d, healed by %d: %+v, %d", u, n, back, healed, gotten)
			default:
				lived++
			}
		}
	}
	for _, u := range rightOnes() {
		for _, n := range around(u) {
			check(u, n)
		}
	}
	source := rand.New(rand.NewSource(6))
	for range 50000 {
		if u := drawn(source); body.Right(u) {
			check(u, someNumber(source))
		}
	}
	if lived < 1000 || died < 1000 {
		t.Errorf("only %d lived, %d died", lived, died)
	}
}

func TestP13_6HurtsInTwoParts(t *testing.T) {
	check := func(u api.Unit, a, b int) {
		t.Helper()
		first, much := body.Hurt(u, a)
		second, more := body.Hurt(first, b)
		want, sum := body.Hurt(u, sat.Add(a, b))
		if second != want || much+more != sum {
			t.Fatalf("%+v, hurt by %d and %d: %+v, %d and %d, not %+v, %d", u, a, b, second, much, more, want, sum)
		}
	}
	over := []int{0, 1, 2, 5, 9, 10, 11, 20, 99, api.MaxAmount, api.MaxAmount + 1, 1 << 32, 1 << 62, 1<<62 + 1, api.MaxInt - 1, api.MaxInt}
	for _, u := range rightOnes() {
		for _, a := range over {
			for _, b := range over {
				check(u, a, b)
			}
		}
		for a := range min(u.Health, 120) + 2 {
			check(u, a, u.Health-min(a, u.Health))
			check(u, a, max(u.Health-a-1, 0))
			check(u, a, u.Health)
		}
	}
	source := rand.New(rand.NewSource(7))
	for range 50000 {
		u := drawn(source)
		check(u, source.Intn(20), source.Intn(20))
		check(u, max(0, someNumber(source)), max(0, someNumber(source)))
	}
}

func TestP13_Examples(t *testing.T) {
	u := api.Unit{Id: 1, Kind: api.UnitHero, Health: 10, MaxHealth: 20, Casting: 3}
	hurt, much := body.Hurt(u, 15)
	if hurt != (api.Unit{Id: 1, Kind: api.UnitHero, MaxHealth: 20}) || much != 10 {
		t.Errorf("Hurt 15: %+v, %d", hurt, much)
	}
	healed, much := body.Heal(u, 15)
	if healed != with(u, "Health", 20) || much != 10 {
		t.Errorf("Heal 15: %+v, %d", healed, much)
	}
}

// TestW2AsOften is of calls that are made twice: they keep nothing.
func TestW2AsOften(t *testing.T) {
	source := rand.New(rand.NewSource(8))
	for range 20000 {
		u, n := drawn(source), someNumber(source)
		before := u
		a, much := body.Hurt(u, n)
		other := drawn(source)
		body.Hurt(other, n)
		body.Raise(other)
		if b, more := body.Hurt(u, n); a != b || much != more || u != before {
			t.Fatalf("%+v, %d: %+v, %d, and then %+v, %d", u, n, a, much, b, more)
		}
	}
}
