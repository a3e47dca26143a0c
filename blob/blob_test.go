package blob_test

import (
	"bytes"
	"encoding/binary"
	"fmt"
	"maps"
	"math/rand"
	"reflect"
	"slices"
	"testing"

	"barrow/api"
	"barrow/blob"
	"barrow/content"
	"barrow/frame"
	"barrow/pack"
)

// mark is what the bytes of content begin with.
const mark = "BRW1"

// most is the greatest amount.
const most = api.MaxAmount

// tile spells a place short.
func tile(x, y int) api.Pos { return api.Pos{X: x, Y: y} }

// bare answers content that is right, of a map of one tile alone.
func bare() api.Content {
	return api.Content{Map: api.Grid{W: 1, H: 1, Wall: make([]bool, 1)}}
}

// sound answers content that is right, of which each part has several rows,
// some of them with empty lists.
func sound() api.Content {
	return api.Content{
		Abilities: []api.Ability{
			{Id: 2, Cast: 1, Cool: 200, Charges: 3, Range: 4, Cost: 5, Sight: true, Effects: []api.Effect{
				{Kind: api.EffectHurt, Amount: 5}, {Kind: api.EffectAura, Aura: 4}, {Kind: api.EffectMove, Amount: 10},
			}},
			{Id: 5, Charges: 1, Effects: []api.Effect{{Kind: api.EffectHurt}}},
		},
		Auras: []api.Aura{
			{Id: 1, Kind: api.AuraHurt, Ticks: 9, Every: 3, Stacks: 2, Amount: 4, Harm: true},
			{Id: 4, Kind: api.AuraIn, Ticks: 6, Stacks: 4, Amount: -30},
		},
		Foes: []api.Foe{
			{Id: 3, Health: 500, Hit: 4, Every: 3, Reach: 2, Drops: 2, Script: []api.Line{
				{Phase: 1, When: api.WhenBelow, Arg: 50, Do: api.DoPhase, Value: 2},
				{Phase: 2, When: api.WhenEvery, Arg: 9, Do: api.DoCast, Value: 5},
			}, Hoard: []api.Prize{{Item: 7, Weight: 1}, {Item: 8, Weight: 2}}},
			{Id: 11, Health: 8, Every: 1},
		},
		Map:  api.Grid{W: 3, H: 2, Wall: []bool{false, true, false, false, false, true}},
		Door: tile(0, 0),
		Lair: tile(1, 1),
	}
}

// laid answers content that is not right, of numbers that are there once, and
// beside it what it is as numbers.
func laid() (api.Content, []int) {
	c := api.Content{
		Abilities: []api.Ability{
			{Id: 1001, Cast: 1002, Cool: 1003, Charges: 1004, Range: 1005, Cost: 1006, Sight: true, Effects: []api.Effect{
				{Kind: 1010, Amount: 1011, Aura: 1012}, {Kind: 1013, Amount: 1014, Aura: 1015},
			}},
			{Id: 1021, Cast: 1022, Cool: 1023, Charges: 1024, Range: 1025, Cost: 1026},
		},
		Auras: []api.Aura{
			{Id: 2001, Kind: 2002, Ticks: 2003, Every: 2004, Stacks: 2005, Amount: 2006},
			{Id: 2011, Kind: 2012, Ticks: 2013, Every: 2014, Stacks: 2015, Amount: 2016, Harm: true},
			{Id: 2021, Kind: 2022, Ticks: 2023, Every: 2024, Stacks: 2025, Amount: 2026},
		},
		Foes: []api.Foe{
			{Id: 3001, Health: 3002, Hit: 3003, Every: 3004, Reach: 3005, Drops: 3006, Hoard: []api.Prize{{Item: 3010, Weight: 3011}}},
			{Id: 3021, Health: 3022, Hit: 3023, Every: 3024, Reach: 3025, Drops: 3026, Script: []api.Line{
				{Phase: 3030, When: 3031, Arg: 3032, Do: 3033, Value: 3034}, {Phase: 3035, When: 3036, Arg: 3037, Do: 3038, Value: 3039},
			}, Hoard: []api.Prize{{Item: 3040, Weight: 3041}, {Item: 3042, Weight: 3043}, {Item: 3044, Weight: 3045}}},
		},
		Map:  api.Grid{W: 4001, H: 4002, Wall: []bool{true, false, false, true, true}},
		Door: tile(5001, 5002),
		Lair: tile(5003, 5004),
	}
	return c, []int{
		2,
		1001, 1002, 1003, 1004, 1005, 1006, 1, 2, 1010, 1011, 1012, 1013, 1014, 1015,
		1021, 1022, 1023, 1024, 1025, 1026, 0, 0,
		3,
		2001, 2002, 2003, 2004, 2005, 2006, 0,
		2011, 2012, 2013, 2014, 2015, 2016, 1,
		2021, 2022, 2023, 2024, 2025, 2026, 0,
		2,
		3001, 3002, 3003, 3004, 3005, 3006, 0, 1, 3010, 3011,
		3021, 3022, 3023, 3024, 3025, 3026, 2, 3030, 3031, 3032, 3033, 3034, 3035, 3036, 3037, 3038, 3039,
		3, 3040, 3041, 3042, 3043, 3044, 3045,
		4001, 4002, 5, 1, 0, 0, 1, 1,
		5001, 5002, 5003, 5004,
	}
}

// full answers content that is right, of as much as there may be, at the ends
// of what its numbers may be.
func full() api.Content {
	c := api.Content{Map: api.Grid{W: api.MaxSide, H: api.MaxSide, Wall: make([]bool, api.MaxSide*api.MaxSide)}}
	for i := range c.Map.Wall {
		c.Map.Wall[i] = i%3 == 1
	}
	c.Door, c.Lair = tile(0, 0), tile(api.MaxSide-1, api.MaxSide-1)
	for i := range api.MaxRows {
		id := api.MaxInt - api.MaxRows + 1 + i
		ability := api.Ability{Id: id, Cast: most, Cool: most, Charges: api.MaxStacks, Range: most, Cost: most, Sight: i%2 == 0}
		foe := api.Foe{Id: id, Health: most, Hit: most, Every: most, Reach: most, Drops: api.MaxList}
		for range api.MaxList {
			ability.Effects = append(ability.Effects, api.Effect{Kind: api.EffectAura, Aura: api.MaxInt})
			foe.Script = append(foe.Script, api.Line{Phase: 100, When: api.WhenAfter, Arg: most, Do: api.DoSay, Value: most})
			foe.Hoard = append(foe.Hoard, api.Prize{Item: most, Weight: most})
		}
		c.Abilities, c.Foes = append(c.Abilities, ability), append(c.Foes, foe)
		c.Auras = append(c.Auras, api.Aura{Id: id, Kind: api.AuraOut, Ticks: most, Stacks: api.MaxStacks, Amount: 1000 - 1100*(i%2), Harm: i%2 == 1})
	}
	return c
}

// rightOnes are contents that are right.
func rightOnes() map[string]api.Content {
	one, hall := sound(), bare()
	one.Foes, one.Auras[1].Id = nil, api.MaxInt
	one.Abilities[0].Effects[1].Aura = api.MaxInt
	hall.Foes = []api.Foe{{Id: 1, Health: 8, Hit: 200, Every: 1, Reach: 1}}
	return map[string]api.Content{"bare": bare(), "sound": sound(), "no foes": one, "a foe": hall}
}

// anyOnes are contents of all sorts, right or not.
func anyOnes() map[string]api.Content {
	all := rightOnes()
	all["empty"] = api.Content{}
	all["laid"], _ = laid()
	all["empty rows"] = api.Content{Abilities: make([]api.Ability, 2), Auras: make([]api.Aura, 3), Foes: make([]api.Foe, 1), Map: api.Grid{Wall: make([]bool, 1)}}
	return all
}

// ends are numbers at the ends of all numbers, of amounts, and of what fits
// into fewer bytes.
func ends() []int {
	return []int{
		api.MinInt, api.MinInt + 1, -1 << 62, -1<<32 + 1, -1 << 31, -most - 1, -most, -128, -65, -64, -1, 0, 1, 63, 64, 127, 128, 255, 256,
		most, most + 1, api.MaxPart, 1 << 31, 1 << 32, 1<<32 + 1, 1 << 62, api.MaxInt - 1, api.MaxInt,
	}
}

// leaves goes over all that content is made of at last: numbers and truths.
func leaves(v reflect.Value, path string, visit func(path string, v reflect.Value)) {
	switch v.Kind() {
	case reflect.Struct:
		for i := range v.NumField() {
			leaves(v.Field(i), path+"."+v.Type().Field(i).Name, visit)
		}
	case reflect.Slice:
		for i := range v.Len() {
			leaves(v.Index(i), fmt.Sprintf("%s[%d]", path, i), visit)
		}
	default:
		visit(path, v)
	}
}

// lists goes over all lists of a value, the outer ones ahead of those within.
func lists(v reflect.Value, path string, visit func(path string, v reflect.Value)) {
	switch v.Kind() {
	case reflect.Struct:
		for i := range v.NumField() {
			lists(v.Field(i), path+"."+v.Type().Field(i).Name, visit)
		}
	case reflect.Slice:
		visit(path, v)
		for i := range v.Len() {
			lists(v.Index(i), fmt.Sprintf("%s[%d]", path, i), visit)
		}
	}
}

// turn gives a number, a byte or a truth another value.
func turn(v reflect.Value) {
	switch v.Kind() {
	case reflect.Bool:
		v.SetBool(!v.Bool())
	case reflect.Uint8:
		v.SetUint(v.Uint() ^ 255)
	default:
		v.SetInt(^v.Int())
	}
}

// rebuilt answers content, or a list, in memory of its own, with that much
// room behind each list; without room, each empty list is nil.
func rebuilt[T any](c T, room int) T {
	lists(reflect.ValueOf(&c).Elem(), "", func(_ string, v reflect.Value) {
		if v.Len() == 0 && room == 0 {
			v.SetZero()
			return
		}
		made := reflect.MakeSlice(v.Type(), v.Len()+room, v.Len()+room)
		reflect.Copy(made, v)
		for i := v.Len(); i < made.Len(); i++ {
			leaves(made.Index(i), "", func(_ string, v reflect.Value) { turn(v) })
		}
		v.Set(made.Slice(0, v.Len()))
	})
	return c
}

// equal answers whether the two are alike, but for empty lists and nil ones.
func equal(a, b api.Content) bool {
	return reflect.DeepEqual(rebuilt(a, 0), rebuilt(b, 0))
}

// orders tells the fields of each type in the order of their numbers, as the
// document's words do.
func orders() map[string][]string {
	return map[string][]string{
		"Content": {"Abilities", "Auras", "Foes", "Map", "Door", "Lair"},
		"Ability": {"Id", "Cast", "Cool", "Charges", "Range", "Cost", "Sight", "Effects"},
		"Effect":  {"Kind", "Amount", "Aura"},
		"Aura":    {"Id", "Kind", "Ticks", "Every", "Stacks", "Amount", "Harm"},
		"Foe":     {"Id", "Health", "Hit", "Every", "Reach", "Drops", "Script", "Hoard"},
		"Line":    {"Phase", "When", "Arg", "Do", "Value"},
		"Prize":   {"Item", "Weight"},
		"Grid":    {"W", "H", "Wall"},
		"Pos":     {"X", "Y"},
	}
}

// plainValue tells a part of content as numbers by the orders alone.
func plainValue(v reflect.Value) []int {
	var l []int
	switch v.Kind() {
	case reflect.Struct:
		for _, field := range orders()[v.Type().Name()] {
			l = append(l, plainValue(v.FieldByName(field))...)
		}
	case reflect.Slice:
		l = append(l, v.Len())
		for i := range v.Len() {
			l = append(l, plainValue(v.Index(i))...)
		}
	case reflect.Bool:
		l = append(l, map[bool]int{true: 1}[v.Bool()])
	default:
		l = append(l, int(v.Int()))
	}
	return l
}

func plainFlat(c api.Content) []int { return plainValue(reflect.ValueOf(c)) }

// plainEnd tells where the numbers of a part end which begin at a place;
// false, if there is none.
func plainEnd(part reflect.Type, l []int, at int) (int, bool) {
	if part.Kind() == reflect.Struct {
		for _, name := range orders()[part.Name()] {
			field, _ := part.FieldByName(name)
			end, is := plainEnd(field.Type, l, at)
			if !is {
				return 0, false
			}
			at = end
		}
		return at, true
	}
	if at >= len(l) {
		return 0, false
	}
	n := l[at]
	at++
	switch part.Kind() {
	case reflect.Bool:
		return at, n == 0 || n == 1
	case reflect.Slice:
		for ; n > 0; n-- {
			end, is := plainEnd(part.Elem(), l, at)
			if !is {
				return 0, false
			}
			at = end
		}
		return at, n == 0
	}
	return at, true
}

// plainIs tells whether a row of numbers is content.
func plainIs(l []int) bool {
	end, is := plainEnd(reflect.TypeFor[api.Content](), l, 0)
	return is && end == len(l)
}

// plainBytes tells the bytes of a row of numbers.
func plainBytes(l []int) []byte {
	b := binary.AppendUvarint([]byte(mark), uint64(len(l)))
	for _, n := range l {
		b = binary.AppendVarint(b, int64(n))
	}
	return b
}

// plainNumbers tells the row of numbers of which these are the bytes; false,
// if there is none.
func plainNumbers(b []byte) ([]int, bool) {
	if len(b) < len(mark) || string(b[:len(mark)]) != mark {
		return nil, false
	}
	at := len(mark)
	_, size := binary.Uvarint(b[at:])
	at += max(size, 0)
	var l []int
	for at < len(b) {
		n, size := binary.Varint(b[at:])
		if size <= 0 {
			return nil, false
		}
		l, at = append(l, int(n)), at+size
	}
	return l, bytes.Equal(plainBytes(l), b)
}

// plainErr tells which error Decode has.
func plainErr(c api.Content, is bool) api.Errno {
	switch {
	case !is:
		return api.ErrForm
	case !content.Right(c):
		return api.ErrArg
	}
	return api.OK
}

// none holds a row of numbers to be no content.
func none(t *testing.T, name string, l []int) {
	t.Helper()
	if c, is := blob.Unflat(l); is || !reflect.DeepEqual(c, api.Content{}) {
		t.Errorf("%s: Unflat(%v): %+v, %t, not zero, false", name, l, c, is)
	}
}

// both holds content and a row of numbers to be each other's.
func both(t *testing.T, name string, c api.Content, l []int) {
	t.Helper()
	if got := blob.Flat(c); !slices.Equal(got, l) {
		t.Errorf("%s: Flat: %v, not %v", name, got, l)
	}
	if got, is := blob.Unflat(l); !is || !equal(got, c) {
		t.Errorf("%s: Unflat: %+v, %t, not %+v", name, got, is, c)
	}
}

// refused holds bytes to be told this error by Decode.
func refused(t *testing.T, name string, b []byte, want api.Errno) {
	t.Helper()
	if c, err := blob.Decode(b); err != want || !reflect.DeepEqual(c, api.Content{}) {
		t.Errorf("%s: Decode(%v): %+v, %d, not zero, %d", name, b, c, err, want)
	}
}

// decoded holds bytes to be those of this content.
func decoded(t *testing.T, name string, b []byte, want api.Content) {
	t.Helper()
	if c, err := blob.Decode(b); err != api.OK || !equal(c, want) {
		t.Errorf("%s: Decode: %+v, %d, not %+v, OK", name, c, err, want)
	}
}

// encoded answers the bytes of content that is right.
func encoded(t *testing.T, c api.Content) []byte {
	t.Helper()
	b, err := blob.Encode(c)
	if err != api.OK {
		t.Fatalf("Encode(%+v): %d", c, err)
	}
	return b
}

// with answers a row in which one number is another one.
func with(l []int, at, n int) []int {
	made := slices.Clone(l)
	made[at] = n
	return made
}

func TestP10_1Examples(t *testing.T) {
	both(t, "a map of one tile", bare(), []int{0, 0, 0, 1, 1, 1, 0, 0, 0, 0, 0})
}

func TestP10_1EachNumberInItsPlace(t *testing.T) {
	c, l := laid()
	both(t, "laid", c, l)
}

func TestP10_1NothingAndEmptyRows(t *testing.T) {
	both(t, "empty", api.Content{}, make([]int, 10))
	c := api.Content{Abilities: make([]api.Ability, 2), Auras: make([]api.Aura, 3), Foes: make([]api.Foe, 1), Map: api.Grid{Wall: make([]bool, 2)}}
	l := slices.Concat([]int{2}, make([]int, 16), []int{3}, make([]int, 21), []int{1}, make([]int, 8), []int{0, 0, 2, 0, 0}, make([]int, 4))
	both(t, "empty rows", c, l)
	c.Abilities[1].Effects = make([]api.Effect, 1)
	both(t, "an empty effect", c, slices.Insert(with(l, 16, 1), 17, 0, 0, 0))
	c.Foes[0].Script = make([]api.Line, 1)
	both(t, "an empty line", c, slices.Insert(slices.Insert(with(with(l, 16, 1), 46, 1), 47, 0, 0, 0, 0, 0), 17, 0, 0, 0))
	c.Foes[0].Hoard = make([]api.Prize, 2)
	both(t, "empty prizes", c, plainFlat(c))
}

func TestP10_1EachNumberAtTheEnds(t *testing.T) {
	for name, c := range anyOnes() {
		c := rebuilt(c, 0)
		leaves(reflect.ValueOf(&c).Elem(), name, func(path string, v reflect.Value) {
			if v.Kind() != reflect.Int {
				return
			}
			before := v.Int()
			for _, n := range ends() {
				v.SetInt(int64(n))
				both(t, fmt.Sprint(path, " ", n), c, plainFlat(c))
			}
			v.SetInt(before)
		})
	}
}

func TestP10_1EachTruth(t *testing.T) {
	for name, c := range anyOnes() {
		c := rebuilt(c, 0)
		leaves(reflect.ValueOf(&c).Elem(), name, func(path string, v reflect.Value) {
			if v.Kind() != reflect.Bool {
				return
			}
			before := blob.Flat(c)
			was := v.Bool()
			v.SetBool(!was)
			after := blob.Flat(c)
			both(t, path, c, plainFlat(c))
			turned := 0
			for i := range before {
				if before[i] != after[i] {
					turned++
					if want := map[bool]int{true: 1}[was]; before[i] != want || after[i] != 1-want {
						t.Errorf("%s of %t: %d, turned %d", path, was, before[i], after[i])
					}
				}
			}
			if turned != 1 {
				t.Errorf("%s: %d numbers turned", path, turned)
			}
			v.SetBool(was)
		})
	}
}

func TestP10_1HowManyOfEach(t *testing.T) {
	for name, c := range anyOnes() {
		c := rebuilt(c, 0)
		lists(reflect.ValueOf(&c).Elem(), name, func(path string, v reflect.Value) {
			before := v.Interface()
			for _, n := range []int{0, 1, 2, 16, 17, 64, 65, 300} {
				made := reflect.MakeSlice(v.Type(), n, n)
				reflect.Copy(made, reflect.ValueOf(before))
				v.Set(made)
				both(t, fmt.Sprint(path, " of ", n), c, plainFlat(c))
			}
			v.Set(reflect.ValueOf(before))
		})
	}
}

func TestP10_1FullContent(t *testing.T) {
	c := full()
	both(t, "full", c, plainFlat(c))
	c.Map.Wall = make([]bool, 1<<20)
	c.Map.Wall[1<<19] = true
	both(t, "walls beyond any map", c, plainFlat(c))
}

func TestP10_1NoNumbers(t *testing.T) {
	none(t, "nil", nil)
	none(t, "empty", []int{})
	for _, n := range ends() {
		none(t, "one number", []int{n})
	}
}

func TestP10_1CutOffOrLonger(t *testing.T) {
	for name, c := range anyOnes() {
		l := plainFlat(c)
		for at := range l {
			none(t, fmt.Sprint(name, " cut off at ", at), l[:at])
			if !plainIs(l[at:]) {
				none(t, fmt.Sprint(name, " from ", at, " on"), l[at:])
			}
		}
		for _, n := range ends() {
			none(t, name+" longer by one", append(slices.Clone(l), n))
		}
		none(t, name+" twice", slices.Concat(l, l))
	}
}

// places answers where the counts and the truths of content stand among its
// numbers, each with a name.
func places(c api.Content) (counts, truths map[int]string) {
	counts, truths = map[int]string{}, map[int]string{}
	at := 0
	var walk func(v reflect.Value, path string)
	walk = func(v reflect.Value, path string) {
		switch v.Kind() {
		case reflect.Struct:
			for _, field := range orders()[v.Type().Name()] {
				walk(v.FieldByName(field), path+"."+field)
			}
			return
		case reflect.Slice:
			counts[at] = path
		case reflect.Bool:
			truths[at] = path
		}
		at++
		if v.Kind() == reflect.Slice {
			for i := range v.Len() {
				walk(v.Index(i), fmt.Sprintf("%s[%d]", path, i))
			}
		}
	}
	walk(reflect.ValueOf(c), "")
	return counts, truths
}

func TestP10_1CountsThatMayNotBe(t *testing.T) {
	for name, c := range anyOnes() {
		l := plainFlat(c)
		counts, _ := places(c)
		for at, path := range counts {
			left := len(l) - at - 1
			for _, n := range []int{
				api.MinInt, api.MinInt + 1, -1 << 32, -1<<32 + l[at], -l[at] - 1, -1, left + 1, left + 2, 1 << 31,
				1 << 32, 1<<32 + l[at], 1 << 40, 1 << 58, 1 << 61, 1 << 62, api.MaxInt - 1, api.MaxInt,
			} {
				none(t, fmt.Sprint(name, path, " count ", n), with(l, at, n))
				none(t, fmt.Sprint(name, path, " count ", n, ", cut off"), with(l, at, n)[:at+1])
			}
			for n := range left + 1 {
				turned := with(l, at, n)
				if is := plainIs(turned); is {
					got, ok := blob.Unflat(turned)
					if !ok || !slices.Equal(blob.Flat(got), turned) {
						t.Errorf("%s%s count %d: %t, %v, not %v", name, path, n, ok, blob.Flat(got), turned)
					}
				} else {
					none(t, fmt.Sprint(name, path, " count ", n), turned)
				}
			}
		}
	}
}

func TestP10_1TruthsThatAreNone(t *testing.T) {
	for name, c := range anyOnes() {
		l := plainFlat(c)
		_, truths := places(c)
		for at, path := range truths {
			for _, n := range append(ends(), 2, 3, -2, -255, -256, 257, 513, 1<<32+1, 1<<63-1, -1<<63+1) {
				if n != 0 && n != 1 {
					none(t, fmt.Sprint(name, path, " of ", n), with(l, at, n))
				}
			}
		}
	}
}

// sameAsPlain holds Unflat to what the plain telling says of a row.
func sameAsPlain(t *testing.T, l []int) bool {
	t.Helper()
	is := plainIs(l)
	if !is {
		none(t, "no content", l)
	} else if c, ok := blob.Unflat(l); !ok || !slices.Equal(plainFlat(c), l) {
		t.Errorf("Unflat(%v): %+v, %t", l, c, ok)
	}
	return is
}

func TestP10_1AllShortRows(t *testing.T) {
	found := 0
	for size := range 12 {
		l := make([]int, size)
		for done := false; !done; {
			if sameAsPlain(t, l) {
				found++
			}
			done = true
			for i := range l {
				if l[i]++; l[i] < 3 {
					done = false
					break
				}
				l[i] = 0
			}
		}
	}
	if want := 3*3*81 + 3*3*2*81; found != want {
		t.Errorf("%d rows are content, not %d", found, want)
	}
}

func TestP10_1RandomRows(t *testing.T) {
	source := rand.New(rand.NewSource(1))
	found := 0
	for range 60000 {
		l := make([]int, 10+source.Intn(40))
		for i := range l {
			switch source.Intn(6) {
			case 0:
				l[i] = source.Intn(3)
			case 1:
				l[i] = 1
			}
		}
		if sameAsPlain(t, l) {
			found++
		}
	}
	if found < 500 {
		t.Errorf("%d rows are content", found)
	}
}

// someContent answers content of any numbers, right or not.
func someContent(source *rand.Rand) api.Content {
	var c api.Content
	lists(reflect.ValueOf(&c).Elem(), "", func(_ string, v reflect.Value) {
		if n := source.Intn(4); n > 0 {
			v.Set(reflect.MakeSlice(v.Type(), n, n))
		}
	})
	leaves(reflect.ValueOf(&c).Elem(), "", func(_ string, v reflect.Value) {
		if v.Kind() == reflect.Bool {
			v.SetBool(source.Intn(2) == 0)
		} else {
			v.SetInt(int64(source.Uint64()) >> source.Intn(64))
		}
	})
	return c
}

func TestP10_1RandomContent(t *testing.T) {
	source := rand.New(rand.NewSource(2))
	for range 3000 {
		c := someContent(source)
		both(t, "random", c, plainFlat(c))
		l := plainFlat(c)
		for range 5 {
			sameAsPlain(t, with(l, source.Intn(len(l)), source.Intn(6)-1))
			at := source.Intn(len(l))
			sameAsPlain(t, slices.Delete(slices.Clone(l), at, at+1))
			sameAsPlain(t, slices.Insert(slices.Clone(l), at, source.Intn(3)))
		}
	}
}

func TestP10_2EncodeExamples(t *testing.T) {
	b := encoded(t, bare())
	if want := []byte{'B', 'R', 'W', '1', 11, 0, 0, 0, 2, 2, 2, 0, 0, 0, 0, 0}; !bytes.Equal(b, want) {
		t.Errorf("a map of one tile: %v, not %v", b, want)
	}
	c := bare()
	c.Auras = []api.Aura{{Id: 300, Kind: api.AuraIn, Ticks: 64, Stacks: 1, Amount: -100, Harm: true}}
	b = encoded(t, c)
	if want := []byte{66, 82, 87, 49, 18, 0, 2, 216, 4, 8, 128, 1, 0, 2, 199, 1, 2, 0, 2, 2, 2, 0, 0, 0, 0, 0}; !bytes.Equal(b, want) {
		t.Errorf("an aura: %v, not %v", b, want)
	}
}

func TestP10_2EncodeIsThePlainOne(t *testing.T) {
	all := rightOnes()
	all["full"] = full()
	for name, c := range all {
		b := encoded(t, c)
		if !bytes.Equal(b, plainBytes(plainFlat(c))) {
			t.Errorf("%s: not the plain bytes", name)
		}
		if !bytes.Equal(b, pack.Ints([]byte(mark), blob.Flat(c))) {
			t.Errorf("%s: not the mark and the packed numbers", name)
		}
		decoded(t, name, b, c)
	}
}

// wrongOnes are contents that are not right, in each part.
func wrongOnes() map[string]api.Content {
	wrong := map[string]api.Content{"empty": {}}
	wrong["laid"], _ = laid()
	for name, spoil := range map[string]func(c *api.Content){
		"an ability without charges": func(c *api.Content) { c.Abilities[1].Charges = 0 },
		"an ability without effects": func(c *api.Content) { c.Abilities[1].Effects = nil },
		"a cast above the amounts":   func(c *api.Content) { c.Abilities[0].Cast = most + 1 },
		"a cast at the least":        func(c *api.Content) { c.Abilities[0].Cast = api.MinInt },
		"an effect of no kind":       func(c *api.Content) { c.Abilities[0].Effects[2].Kind = 8 },
		"an effect of no aura":       func(c *api.Content) { c.Abilities[0].Effects[1].Aura = 3 },
		"abilities that do not rise": func(c *api.Content) { c.Abilities[1].Id = 2 },
		"too many abilities": func(c *api.Content) {
			c.Abilities = full().Abilities
			c.Abilities = append(c.Abilities, c.Abilities[0])
		},
		"an aura of no kind":           func(c *api.Content) { c.Auras[1].Kind = 0 },
		"an aura that ticks never":     func(c *api.Content) { c.Auras[0].Every = 0 },
		"an aura of no stack":          func(c *api.Content) { c.Auras[0].Stacks = 0 },
		"an aura at the most":          func(c *api.Content) { c.Auras[1].Amount = api.MaxInt },
		"an Id of 0":                   func(c *api.Content) { c.Auras[0].Id = 0 },
		"a foe without health":         func(c *api.Content) { c.Foes[1].Health = 0 },
		"a foe that drops nothing":     func(c *api.Content) { c.Foes[1].Drops = 1 },
		"a line of no phase":           func(c *api.Content) { c.Foes[0].Script[1].Phase = 0 },
		"a line that casts nothing":    func(c *api.Content) { c.Foes[0].Script[1].Value = 3 },
		"a prize of no weight":         func(c *api.Content) { c.Foes[0].Hoard[0].Weight = 0 },
		"a foe of too many prizes":     func(c *api.Content) { c.Foes[0].Hoard = append(full().Foes[0].Hoard, api.Prize{Item: 1, Weight: 1}) },
		"foes that fall":               func(c *api.Content) { c.Foes[0].Id, c.Foes[1].Id = 4, 3 },
		"no map":                       func(c *api.Content) { c.Map = api.Grid{} },
		"a map of too few walls":       func(c *api.Content) { c.Map.Wall = c.Map.Wall[:5] },
		"a map of too many walls":      func(c *api.Content) { c.Map.Wall = append(c.Map.Wall, false) },
		"a map that is turned":         func(c *api.Content) { c.Map.W, c.Map.H = -3, -2 },
		"a map that is too wide":       func(c *api.Content) { c.Map = api.Grid{W: 257, H: 1, Wall: make([]bool, 257)} },
		"a door in a wall":             func(c *api.Content) { c.Door = tile(1, 0) },
		"a door beyond the map":        func(c *api.Content) { c.Door = tile(3, 0) },
		"a lair at the end of numbers": func(c *api.Content) { c.Lair = tile(api.MinInt, api.MaxInt) },
	} {
		c := sound()
		spoil(&c)
		wrong[name] = c
	}
	return wrong
}

func TestP10_2ContentThatIsNotRight(t *testing.T) {
	for name, c := range wrongOnes() {
		if b, err := blob.Encode(c); err != api.ErrArg || len(b) != 0 {
			t.Errorf("%s: Encode: %v, %d, not none, ErrArg", name, b, err)
		}
		b := plainBytes(plainFlat(c))
		refused(t, name, b, api.ErrArg)
		refused(t, name+", cut off", b[:len(b)-1], api.ErrForm)
		refused(t, name+", longer", append(slices.Clone(b), 0), api.ErrForm)
	}
}

func TestP10_2EachNumberOfRightContent(t *testing.T) {
	c, told := sound(), map[api.Errno]int{}
	leaves(reflect.ValueOf(&c).Elem(), "", func(path string, v reflect.Value) {
		if v.Kind() != reflect.Int {
			return
		}
		before := v.Int()
		for _, n := range ends() {
			v.SetInt(int64(n))
			want, bs := plainErr(c, true), plainBytes(plainFlat(c))
			told[want]++
			b, err := blob.Encode(c)
			if err != want || err == api.OK && !bytes.Equal(b, bs) || err != api.OK && len(b) != 0 {
				t.Errorf("%s of %d: Encode: %v, %d, not %d", path, n, b, err, want)
			}
			if want == api.OK {
				decoded(t, path, bs, c)
			} else {
				refused(t, path, bs, want)
			}
		}
		v.SetInt(before)
	})
	if told[api.OK] < 100 || told[api.ErrArg] < 100 {
		t.Errorf("right and not: %v", told)
	}
}

func TestP10_2OtherBeginnings(t *testing.T) {
	b := encoded(t, sound())
	refused(t, "nil", nil, api.ErrForm)
	refused(t, "empty", []byte{}, api.ErrForm)
	refused(t, "no mark", b[len(mark):], api.ErrForm)
	for at := range len(mark) {
		refused(t, "a part of the mark", []byte(mark)[:at+1], api.ErrForm)
		refused(t, "a mark cut short", append([]byte(mark)[:at], b[len(mark):]...), api.ErrForm)
		for n := range 256 {
			if other := slices.Clone(b); other[at] != byte(n) {
				other[at] = byte(n)
				refused(t, fmt.Sprint("the mark's byte ", at, " is ", n), other, api.ErrForm)
			}
		}
	}
	for _, other := range []string{"brw1", "BRW2", "1WRB", "BRW ", "BRW", "BRW1B", "\x00BRW1", " BRW1", "BRW1BRW1"} {
		refused(t, other, append([]byte(other), b[len(mark):]...), api.ErrForm)
	}
	refused(t, "the mark and 0 behind", append([]byte(mark), 0), api.ErrForm)
}

// written answers the bytes of content number by number: the mark, how many,
// and each.
func written(l []int) [][]byte {
	parts := [][]byte{[]byte(mark), binary.AppendUvarint(nil, uint64(len(l)))}
	for _, n := range l {
		parts = append(parts, binary.AppendVarint(nil, int64(n)))
	}
	return parts
}

// longer answers the bytes of a number with digits of 0 behind them, up to that
// many bytes, the last of which is told; none, if it has as many already.
func longer(form []byte, size int, last byte) []byte {
	if len(form) >= size {
		return nil
	}
	made := slices.Clone(form)
	made[len(made)-1] |= 128
	for len(made) < size-1 {
		made = append(made, 128)
	}
	return append(made, last)
}

func TestP10_2NumbersThatAreNotWrittenSo(t *testing.T) {
	for name, c := range rightOnes() {
		parts := written(plainFlat(c))
		decoded(t, name, bytes.Join(parts, nil), c)
		for i := 1; i < len(parts); i++ {
			as := func(form []byte) (string, []byte) {
				made := slices.Clone(parts)
				made[i] = form
				return fmt.Sprintf("%s: the part %d as %v", name, i, form), bytes.Join(made, nil)
			}
			size := len(parts[i])
			for _, form := range [][]byte{
				longer(parts[i], size+1, 0), longer(parts[i], size+2, 0), longer(parts[i], 9, 0), longer(parts[i], 10, 0), longer(parts[i], 10, 2),
				longer(parts[i], 11, 0), longer(parts[i], 11, 1), append(bytes.Repeat([]byte{255}, 10), 1), bytes.Repeat([]byte{255}, 40),
			} {
				if len(form) > 0 {
					what, b := as(form)
					refused(t, what, b, api.ErrForm)
				}
			}
			for _, form := range [][]byte{longer(parts[i], 10, 1), {}, {0}, {0, 0}, {1}, {2}, {4}, {127}, {128}, {128, 1}, {128, 0, 0}} {
				what, b := as(form)
				asThePlain(t, what, b)
			}
		}
	}
}

func TestP10_2HowManyNumbers(t *testing.T) {
	for name, c := range rightOnes() {
		l := plainFlat(c)
		parts := written(l)
		for _, n := range []uint64{
			0, 1, uint64(len(l)) - 1, uint64(len(l)) + 1, uint64(len(l)) + 2, 2 * uint64(len(l)), 1 << 20, 1 << 31, 1<<32 + uint64(len(l)),
			1 << 40, 1 << 62, api.MaxInt - 1, api.MaxInt, 1 << 63, 1<<63 + uint64(len(l)), 1<<64 - 1 - uint64(len(l)), 1<<64 - 1,
		} {
			made := slices.Clone(parts)
			made[1] = binary.AppendUvarint(nil, n)
			refused(t, fmt.Sprint(name, " of ", n, " numbers"), bytes.Join(made, nil), api.ErrForm)
		}
		refused(t, name+", a number more", plainBytes(append(slices.Clone(l), 0)), api.ErrForm)
		refused(t, name+", a number less", plainBytes(l[:len(l)-1]), api.ErrForm)
	}
	refused(t, "no number", plainBytes(nil), api.ErrForm)
}

func TestP10_2NumbersThatAreNoContent(t *testing.T) {
	l := plainFlat(sound())
	counts, truths := places(sound())
	for at, path := range counts {
		for _, n := range []int{api.MinInt, -1, len(l), api.MaxInt} {
			refused(t, fmt.Sprint(path, " count ", n), plainBytes(with(l, at, n)), api.ErrForm)
		}
	}
	for at, path := range truths {
		for _, n := range []int{api.MinInt, -1, 2, 256, 1 << 32, api.MaxInt} {
			refused(t, fmt.Sprint(path, " of ", n), plainBytes(with(l, at, n)), api.ErrForm)
		}
	}
}

// asThePlain holds Decode to what the plain telling says of bytes, and answers
// the error.
func asThePlain(t *testing.T, name string, b []byte) api.Errno {
	t.Helper()
	var c api.Content
	l, is := plainNumbers(b)
	if is = is && plainIs(l); is {
		c, _ = blob.Unflat(l)
	}
	want := plainErr(c, is)
	if want != api.OK {
		refused(t, name, b, want)
		return want
	}
	decoded(t, name, b, c)
	if again, err := blob.Encode(c); err != api.OK || !bytes.Equal(again, b) {
		t.Errorf("%s: encoded again: %v, %d, not %v", name, again, err, b)
	}
	return want
}

func TestP10_2EachByteTurned(t *testing.T) {
	b := encoded(t, sound())
	told := map[api.Errno]int{}
	for at := range b {
		for n := range 256 {
			turned := slices.Clone(b)
			turned[at] = byte(n)
			told[asThePlain(t, fmt.Sprint("the byte ", at, " is ", n), turned)]++
		}
	}
	if told[api.OK] < 1000 || told[api.ErrArg] < 1000 || told[api.ErrForm] < 1000 {
		t.Errorf("all kinds: %v", told)
	}
}

func TestP10_2RandomBytes(t *testing.T) {
	source := rand.New(rand.NewSource(3))
	b := encoded(t, sound())
	for range 20000 {
		turned := slices.Clone(b)
		for range 1 + source.Intn(3) {
			at := source.Intn(len(turned))
			switch source.Intn(3) {
			case 0:
				turned[at] = byte(source.Intn(256))
			case 1:
				turned = slices.Delete(turned, at, at+1)
			default:
				turned = slices.Insert(turned, at, byte(source.Intn(4)))
			}
		}
		asThePlain(t, "random", turned)
	}
}

// spans answers where the memory of each list of a value lies, with its spare
// room: from which byte on, up to which one.
func spans(v any) map[string][2]uintptr {
	answer := map[string][2]uintptr{}
	at := reflect.New(reflect.TypeOf(v)).Elem()
	at.Set(reflect.ValueOf(v))
	lists(at, "", func(path string, v reflect.Value) {
		if v.Cap() > 0 {
			first := v.Pointer()
			answer[path] = [2]uintptr{first, first + uintptr(v.Cap())*v.Type().Elem().Size()}
		}
	})
	return answer
}

// shares answers a list of each that lie on one another, if there are two.
func shares(a, b map[string][2]uintptr) (string, bool) {
	for _, one := range slices.Sorted(maps.Keys(a)) {
		for _, other := range slices.Sorted(maps.Keys(b)) {
			if a[one][0] < b[other][1] && b[other][0] < a[one][1] {
				return one + " and " + other, true
			}
		}
	}
	return "", false
}

// within answers two lists of one value that lie on one another, if there are
// two.
func within(a map[string][2]uintptr) (string, bool) {
	for _, path := range slices.Sorted(maps.Keys(a)) {
		rest := maps.Clone(a)
		delete(rest, path)
		if where, is := shares(map[string][2]uintptr{path: a[path]}, rest); is {
			return where, true
		}
	}
	return "", false
}

// spoil writes over all lists of a value, spare room too.
func spoil(v any) {
	at := reflect.New(reflect.TypeOf(v)).Elem()
	at.Set(reflect.ValueOf(v))
	var rooms []reflect.Value
	lists(at, "", func(_ string, v reflect.Value) { rooms = append(rooms, v.Slice(0, v.Cap())) })
	for _, room := range rooms {
		leaves(room, "", func(_ string, v reflect.Value) { turn(v) })
	}
}

// guarded answers what is handed in with room behind all its lists, and a
// check that neither has changed.
func guarded[T any](t *testing.T, c T) (T, func(string)) {
	t.Helper()
	roomy := rebuilt(c, 4)
	told := func() string {
		text := fmt.Sprintf("%+v", roomy)
		lists(reflect.ValueOf(&roomy).Elem(), "", func(path string, v reflect.Value) {
			text += fmt.Sprintf("%s %d %+v\n", path, v.Pointer(), v.Slice(0, v.Cap()))
		})
		return text
	}
	before := told()
	return roomy, func(call string) {
		t.Helper()
		if told() != before {
			t.Errorf("%s has turned what was handed in", call)
		}
	}
}

// apart holds a call's answers to be new memory each time, apart from what was
// handed in, and to be written over without a turn of anything else.
func apart[T any](t *testing.T, name string, handed T, call func(T) any) {
	t.Helper()
	in, check := guarded(t, handed)
	first, second := call(in), call(in)
	check(name)
	before := fmt.Sprintf("%+v", second)
	if got := fmt.Sprintf("%+v", first); got != before {
		t.Errorf("%s: %s, and then %s", name, got, before)
	}
	if where, is := shares(spans(first), spans(in)); is {
		t.Errorf("%s: the answer and what was handed in share: %s", name, where)
	}
	if where, is := shares(spans(first), spans(second)); is {
		t.Errorf("%s: two answers share: %s", name, where)
	}
	if where, is := within(spans(first)); is {
		t.Errorf("%s: two lists share: %s", name, where)
	}
	spoil(first)
	check("writing over the answer of " + name)
	if now := fmt.Sprintf("%+v", second); now != before {
		t.Errorf("%s: the second answer is %s by now, not %s", name, now, before)
	}
	if third := fmt.Sprintf("%+v", call(in)); third != before {
		t.Errorf("%s: the third answer is %s, not %s", name, third, before)
	}
	spoil(in)
	if now := fmt.Sprintf("%+v", second); now != before {
		t.Errorf("%s: with what was handed in written over, the answer is %s, not %s", name, now, before)
	}
}

func callFlat(c api.Content) any { return blob.Flat(c) }

func callEncode(c api.Content) any { b, _ := blob.Encode(c); return b }

func callUnflat(l []int) any { c, _ := blob.Unflat(l); return c }

func callDecode(b []byte) any { c, _ := blob.Decode(b); return c }

func TestP10_3AnswersAreNewMemory(t *testing.T) {
	all := anyOnes()
	maps.Copy(all, wrongOnes())
	for name, c := range all {
		l := plainFlat(c)
		apart(t, "Flat of "+name, c, callFlat)
		apart(t, "Encode of "+name, c, callEncode)
		apart(t, "Unflat of "+name, l, callUnflat)
		apart(t, "Unflat of "+name+", cut off", l[:len(l)-1], callUnflat)
		apart(t, "Decode of "+name, plainBytes(l), callDecode)
		apart(t, "Decode of "+name+", longer", append(plainBytes(l), 0), callDecode)
	}
}

func TestP10_3AListThatIsThereTwice(t *testing.T) {
	c := sound()
	c.Abilities[1].Effects = c.Abilities[0].Effects
	c.Foes[1].Script, c.Foes[1].Hoard = c.Foes[0].Script, c.Foes[0].Hoard[:1]
	apart(t, "Flat", c, callFlat)
	apart(t, "Encode", c, callEncode)
	decoded(t, "lists that are there twice", encoded(t, c), c)
}

func TestP10_3NilIsNotWrittenOver(t *testing.T) {
	apart(t, "Unflat of none", []int(nil), callUnflat)
	apart(t, "Decode of none", []byte(nil), callDecode)
	apart(t, "Decode of the mark", []byte(mark), callDecode)
}

func TestP10_4ContentAndBytesAreEachOthers(t *testing.T) {
	all := rightOnes()
	all["full"] = full()
	for name, c := range all {
		b := encoded(t, c)
		decoded(t, name, b, c)
		got, _ := blob.Decode(b)
		if again := encoded(t, got); !bytes.Equal(again, b) {
			t.Errorf("%s: %v, and again %v", name, b, again)
		}
		if !content.Same(got, c) || !content.Right(got) {
			t.Errorf("%s: %+v, not %+v", name, got, c)
		}
	}
	for name, c := range anyOnes() {
		got, is := blob.Unflat(blob.Flat(c))
		if !is || !equal(got, c) || !slices.Equal(blob.Flat(got), blob.Flat(c)) {
			t.Errorf("%s: %+v, %t, not %+v", name, got, is, c)
		}
	}
}

// someRight answers content that is right, of numbers as they come.
func someRight(source *rand.Rand) api.Content {
	for {
		c := sound()
		if source.Intn(3) == 0 {
			c.Foes = c.Foes[:source.Intn(2)]
		}
		leaves(reflect.ValueOf(&c).Elem(), "", func(_ string, v reflect.Value) {
			switch {
			case source.Intn(20) > 0:
			case v.Kind() == reflect.Bool:
				v.SetBool(source.Intn(2) == 0)
			default:
				v.SetInt(int64(source.Intn(300)) - 40)
			}
		})
		if content.Right(c) {
			return c
		}
	}
}

func TestP10_4RandomPairs(t *testing.T) {
	source := rand.New(rand.NewSource(4))
	alike := 0
	for range 2000 {
		a, b := someRight(source), someRight(source)
		bytesOfA, bytesOfB := encoded(t, a), encoded(t, b)
		decoded(t, "one of a pair", bytesOfA, a)
		if content.Same(a, b) != bytes.Equal(bytesOfA, bytesOfB) {
			t.Fatalf("%+v and %+v: %v and %v", a, b, bytesOfA, bytesOfB)
		}
		if content.Same(a, b) {
			alike++
		}
	}
	if alike == 2000 {
		t.Error("all pairs are alike")
	}
}

func TestP10_4UnlikeContent(t *testing.T) {
	for name, c := range anyOnes() {
		c := rebuilt(c, 0)
		before := blob.Flat(c)
		leaves(reflect.ValueOf(&c).Elem(), name, func(path string, v reflect.Value) {
			was := v.Interface()
			turn(v)
			after := blob.Flat(c)
			if slices.Equal(after, before) || bytes.Equal(pack.Ints(nil, after), pack.Ints(nil, before)) {
				t.Errorf("%s: the numbers are the same", path)
			}
			if got, is := blob.Unflat(after); !is || !equal(got, c) {
				t.Errorf("%s: %+v, %t", path, got, is)
			}
			v.Set(reflect.ValueOf(was))
		})
		lists(reflect.ValueOf(&c).Elem(), name, func(path string, v reflect.Value) {
			if v.Len() == 0 {
				return
			}
			was := v.Interface()
			v.Set(v.Slice(0, v.Len()-1))
			if slices.Equal(blob.Flat(c), before) {
				t.Errorf("%s, shorter by one: the numbers are the same", path)
			}
			v.Set(reflect.ValueOf(was))
		})
	}
}

func TestP10_4WhatMovesFromListToList(t *testing.T) {
	seen := map[string]string{}
	for name, c := range map[string]api.Content{
		"an ability":        {Abilities: make([]api.Ability, 1)},
		"an aura":           {Auras: make([]api.Aura, 1)},
		"a foe":             {Foes: make([]api.Foe, 1)},
		"a wall":            {Map: api.Grid{Wall: make([]bool, 1)}},
		"a line":            {Foes: []api.Foe{{Script: make([]api.Line, 1)}}},
		"a prize":           {Foes: []api.Foe{{Hoard: make([]api.Prize, 1)}}},
		"a foe, and a line": {Foes: []api.Foe{{}, {Script: make([]api.Line, 1)}}},
		"a line, and a foe": {Foes: []api.Foe{{Script: make([]api.Line, 1)}, {}}},
		"effects 1 and 0":   {Abilities: []api.Ability{{Effects: make([]api.Effect, 1)}, {}}},
		"effects 0 and 1":   {Abilities: []api.Ability{{}, {Effects: make([]api.Effect, 1)}}},
		"a wide map":        {Map: api.Grid{W: 2, H: 1, Wall: make([]bool, 2)}},
		"a high map":        {Map: api.Grid{W: 1, H: 2, Wall: make([]bool, 2)}},
		"a door":            {Door: tile(1, 0)},
		"a lair":            {Lair: tile(1, 0)},
	} {
		key := fmt.Sprint(blob.Flat(c))
		if other, is := seen[key]; is {
			t.Errorf("%s and %s: both %s", name, other, key)
		}
		seen[key] = name
		both(t, name, c, plainFlat(c))
	}
}

func TestP10_4NilAndEmptyAreTheSame(t *testing.T) {
	for name, c := range anyOnes() {
		empty, none := rebuilt(c, 3), rebuilt(c, 0)
		if a, b := blob.Flat(empty), blob.Flat(none); !slices.Equal(a, b) {
			t.Errorf("%s: Flat: %v and %v", name, a, b)
		}
		a, errA := blob.Encode(empty)
		b, errB := blob.Encode(none)
		if errA != errB || !bytes.Equal(a, b) {
			t.Errorf("%s: Encode: %v, %d and %v, %d", name, a, errA, b, errB)
		}
	}
	c := bare()
	c.Abilities, c.Auras, c.Foes = []api.Ability{}, []api.Aura{}, []api.Foe{}
	if got := encoded(t, c); !bytes.Equal(got, encoded(t, bare())) {
		t.Errorf("empty lists: %v", got)
	}
}

func TestP10_5BytesThatAreCutOff(t *testing.T) {
	for name, c := range rightOnes() {
		b := encoded(t, c)
		for at := range b {
			refused(t, fmt.Sprint(name, " cut off at ", at), b[:at], api.ErrForm)
			refused(t, fmt.Sprint(name, " cut off at ", at, ", the rest behind"), b[:at:at], api.ErrForm)
			if at > 0 {
				refused(t, fmt.Sprint(name, " from ", at, " on"), b[at:], api.ErrForm)
			}
		}
	}
	for name, c := range wrongOnes() {
		b := plainBytes(plainFlat(c))
		for at := 0; at < len(b); at += 1 + len(b)/200 {
			refused(t, fmt.Sprint(name, " cut off at ", at), b[:at], api.ErrForm)
		}
	}
}

func TestP10_5BytesThatGoOn(t *testing.T) {
	for name, c := range rightOnes() {
		b := encoded(t, c)
		for n := range 256 {
			refused(t, fmt.Sprint(name, " and ", n), append(slices.Clone(b), byte(n)), api.ErrForm)
			refused(t, fmt.Sprint(name, " and twice ", n), append(slices.Clone(b), byte(n), byte(n)), api.ErrForm)
		}
		refused(t, name+" twice", slices.Concat(b, b), api.ErrForm)
		refused(t, name+" and a mark", slices.Concat(b, []byte(mark)), api.ErrForm)
		decoded(t, name+", roomy", append(make([]byte, 0, 2*len(b)), b...), c)
	}
}

func TestP10_5RandomContent(t *testing.T) {
	source := rand.New(rand.NewSource(5))
	for range 200 {
		b := encoded(t, someRight(source))
		for at := range b {
			refused(t, "cut off", b[:at], api.ErrForm)
		}
		refused(t, "longer", append(b, byte(source.Intn(256))), api.ErrForm)
	}
}

func TestT1ContentThroughFrames(t *testing.T) {
	for name, c := range rightOnes() {
		sent, err := frame.Wrap(encoded(t, c))
		if err != api.OK {
			t.Fatalf("%s: Wrap: %d", name, err)
		}
		for at := range sent {
			feed := frame.New()
			first, _ := feed.Push(sent[:at])
			second, err := feed.Push(sent[at:])
			if loads := append(first, second...); err != api.OK || len(loads) != 1 {
				t.Fatalf("%s cut at %d: %v, %d", name, at, loads, err)
			} else {
				decoded(t, name, loads[0], c)
			}
		}
	}
}
