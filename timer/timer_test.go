package timer_test

import (
	"cmp"
	"math/rand"
	"slices"
	"testing"

	"barrow/api"
	"barrow/timer"
)

// watched is a queue each of whose calls is held against what the test tells.
type watched struct {
	t *testing.T
	x *timer.Queue
}

func newWatched(t *testing.T) watched {
	t.Helper()
	w := watched{t, timer.New()}
	w.waits(0)
	return w
}

// add adds a timer that is to get the number.
func (w watched) add(due, tag, want int) {
	w.t.Helper()
	if id, err := w.x.Add(due, tag); id != want || err != api.OK {
		w.t.Fatalf("Add(%d, %d): %d, error %d, not %d", due, tag, id, err, want)
	}
}

// full adds a timer for which there is to be no room.
func (w watched) full(due, tag int) {
	w.t.Helper()
	before := w.x.Len()
	if id, err := w.x.Add(due, tag); id != 0 || err != api.ErrFull {
		w.t.Fatalf("Add(%d, %d) where there is no room: %d, error %d", due, tag, id, err)
	}
	if w.x.Len() != before {
		w.t.Fatalf("%d timers behind an Add without room, not %d", w.x.Len(), before)
	}
}

func (w watched) cancel(id int, want bool) {
	w.t.Helper()
	if got := w.x.Cancel(id); got != want {
		w.t.Fatalf("Cancel(%d): %t, not %t", id, got, want)
	}
}

func (w watched) cancelTag(tag, want int) {
	w.t.Helper()
	if got := w.x.CancelTag(tag); got != want {
		w.t.Fatalf("CancelTag(%d): %d, not %d", tag, got, want)
	}
}

func (w watched) due(now int, want ...api.Timer) {
	w.t.Helper()
	if got := w.x.Due(now); !slices.Equal(got, want) {
		w.t.Fatalf("Due(%d): %v, not %v", now, got, want)
	}
}

// waits holds Len and Next against so many timers and the first of them.
func (w watched) waits(count int, first ...api.Timer) {
	w.t.Helper()
	want := api.Timer{}
	if len(first) > 0 {
		want = first[0]
	}
	for range 2 {
		if got := w.x.Len(); got != count {
			w.t.Fatalf("Len: %d, not %d", got, count)
		}
		if got, ok := w.x.Next(); got != want || ok != (len(first) > 0) {
			w.t.Fatalf("Next: %v, %t, not %v", got, ok, want)
		}
	}
}

// empties takes all timers out, which are to be these.
func (w watched) empties(want ...api.Timer) {
	w.t.Helper()
	w.waits(len(want), want[:min(1, len(want))]...)
	w.due(api.MaxInt, want...)
	w.waits(0)
}

// fill adds timers up to MaxTimers to a new queue, the later ones due ahead
// of the others.
func fill(t *testing.T) watched {
	t.Helper()
	w := newWatched(t)
	for i := range api.MaxTimers {
		w.add(-i, i%2, i+1)
		w.waits(i+1, api.Timer{Due: -i, Tag: i % 2, Id: i + 1})
	}
	return w
}

func TestP5_1Examples(t *testing.T) {
	w := newWatched(t)
	w.add(5, 1, 1)
	w.add(3, 2, 2)
	w.add(5, 3, 3)
	w.due(5, api.Timer{Due: 3, Tag: 2, Id: 2}, api.Timer{Due: 5, Tag: 1, Id: 1}, api.Timer{Due: 5, Tag: 3, Id: 3})
	w.waits(0)

	w = newWatched(t)
	w.add(5, 1, 1)
	w.cancel(1, true)
	w.cancel(1, false)
	w.waits(0)
}

func TestP5_1NoTimer(t *testing.T) {
	w := newWatched(t)
	for _, n := range []int{api.MinInt, -1, 0, 1, 2, api.MaxInt} {
		w.cancel(n, false)
		w.cancelTag(n, 0)
		w.due(n)
		w.waits(0)
	}
	w.add(7, 0, 1)
	w.waits(1, api.Timer{Due: 7, Id: 1})
}

func TestP5_1NumbersRise(t *testing.T) {
	w := newWatched(t)
	w.add(9, 0, 1)
	w.add(8, 0, 2)
	w.cancel(2, true)
	w.add(7, 0, 3)
	w.cancel(1, true)
	w.add(6, 4, 4)
	w.cancelTag(4, 1)
	w.add(5, 4, 5)
	w.cancelTag(4, 1)
	w.cancelTag(0, 1)
	w.waits(0)
	w.add(4, 0, 6)
	w.due(4, api.Timer{Due: 4, Id: 6})
	w.add(3, 0, 7)
	w.add(9, 0, 8)
	w.due(5, api.Timer{Due: 3, Id: 7})
	w.cancel(77, false)
	w.cancelTag(77, 0)
	w.due(api.MinInt)
	w.add(1, 0, 9)
	w.empties(api.Timer{Due: 1, Id: 9}, api.Timer{Due: 9, Id: 8})
}

func TestP5_1NumbersRiseBehindErrFull(t *testing.T) {
	w := fill(t)
	for range 3 {
		w.full(0, 0)
	}
	w.cancel(1, true)
	w.add(1, 0, api.MaxTimers+1)
	w.full(1, 0)
	w.due(api.MinInt)
	w.full(1, 0)
	w.cancelTag(1, api.MaxTimers/2)
	w.add(2, 0, api.MaxTimers+2)
}

func TestP5_1MaxTimers(t *testing.T) {
	w := fill(t)
	first := api.Timer{Due: 1 - api.MaxTimers, Tag: 1, Id: api.MaxTimers}
	for _, n := range []int{api.MinInt, -1, 0, 1, api.MaxInt} {
		w.full(n, n)
		w.waits(api.MaxTimers, first)
	}
	got := w.x.Due(api.MaxInt)
	if len(got) != api.MaxTimers {
		t.Fatalf("%d timers came out", len(got))
	}
	for i, one := range got {
		due := 1 - api.MaxTimers + i
		if want := (api.Timer{Due: due, Tag: -due % 2, Id: 1 - due}); one != want {
			t.Fatalf("timer %d: %v, not %v", i, one, want)
		}
	}
	w.waits(0)
	for i := range api.MaxTimers {
		w.add(i, 0, api.MaxTimers+i+1)
	}
	w.full(0, 0)
}

func TestP5_1RoomAgain(t *testing.T) {
	const last = 1 - api.MaxTimers
	ways := []struct {
		name  string
		room  func(watched)
		count int
	}{
		{"the first was cancelled", func(w watched) { w.cancel(1, true) }, 1},
		{"the last was cancelled", func(w watched) { w.cancel(api.MaxTimers, true) }, 1},
		{"one between was cancelled", func(w watched) { w.cancel(500, true) }, 1},
		{"a tag was cancelled", func(w watched) { w.cancelTag(1, api.MaxTimers/2) }, api.MaxTimers / 2},
		{"one came out", func(w watched) { w.due(last, api.Timer{Due: last, Tag: 1, Id: api.MaxTimers}) }, 1},
		{"all came out", func(w watched) { w.x.Due(0) }, api.MaxTimers},
		{"none came out", func(w watched) { w.due(last - 1) }, 0},
		{"no number was cancelled", func(w watched) { w.cancel(api.MaxTimers+1, false) }, 0},
		{"no tag was cancelled", func(w watched) { w.cancelTag(2, 0) }, 0},
	}
	for _, way := range ways {
		t.Run(way.name, func(t *testing.T) {
			w := fill(t)
			w.full(0, 0)
			way.room(w)
			for i := range way.count {
				w.add(0, 1, api.MaxTimers+i+1)
			}
			w.full(0, 0)
			if w.x.Len() != api.MaxTimers {
				t.Errorf("Len: %d", w.x.Len())
			}
		})
	}
}

func TestP5_1CancelOfNoTimer(t *testing.T) {
	w := newWatched(t)
	w.add(3, 9, 1)
	w.add(2, 8, 2)
	w.add(1, 7, 3)
	w.add(4, 6, 4)
	for _, id := range []int{api.MinInt, -1, 0, 5, 6, 7, 8, 9, 1 << 32, api.MaxInt} {
		w.cancel(id, false)
		w.waits(4, api.Timer{Due: 1, Tag: 7, Id: 3})
	}
	w.cancel(2, true)
	w.cancel(2, false)
	w.waits(3, api.Timer{Due: 1, Tag: 7, Id: 3})
	w.due(1, api.Timer{Due: 1, Tag: 7, Id: 3})
	w.cancel(3, false)
	w.waits(2, api.Timer{Due: 3, Tag: 9, Id: 1})
	w.cancelTag(6, 1)
	w.cancel(4, false)
	w.empties(api.Timer{Due: 3, Tag: 9, Id: 1})
	w.cancel(1, false)
}

// TestP5_1CancelAnyOfAnyCount cancels each timer of rows of several lengths,
// so that each place of the heap loses its timer once.
func TestP5_1CancelAnyOfAnyCount(t *testing.T) {
	for count := 1; count <= 40; count++ {
		for gone := 1; gone <= count; gone++ {
			for _, step := range []int{1, -1, 7} {
				w := newWatched(t)
				var want []api.Timer
				for id := 1; id <= count; id++ {
					due := id * step % 41
					w.add(due, 0, id)
					if id != gone {
						want = append(want, api.Timer{Due: due, Id: id})
					}
				}
				w.cancel(gone, true)
				w.cancel(gone, false)
				w.empties(inOrder(want)...)
			}
		}
	}
}

func TestP5_1CancelTag(t *testing.T) {
	list := []api.Timer{{Due: 4, Tag: 1, Id: 1}, {Due: 2, Tag: 2, Id: 2}, {Due: 3, Tag: 1, Id: 3}, {Due: 1, Tag: 1, Id: 4}, {Due: 5, Tag: 0, Id: 5}}
	cases := []struct {
		tag, count int
		left       []api.Timer
	}{
		{3, 0, []api.Timer{list[3], list[1], list[2], list[0], list[4]}},
		{-1, 0, []api.Timer{list[3], list[1], list[2], list[0], list[4]}},
		{api.MinInt, 0, []api.Timer{list[3], list[1], list[2], list[0], list[4]}},
		{api.MaxInt, 0, []api.Timer{list[3], list[1], list[2], list[0], list[4]}},
		{0, 1, []api.Timer{list[3], list[1], list[2], list[0]}},
		{2, 1, []api.Timer{list[3], list[2], list[0], list[4]}},
		{1, 3, []api.Timer{list[1], list[4]}},
	}
	for _, c := range cases {
		w := newWatched(t)
		for _, one := range list {
			w.add(one.Due, one.Tag, one.Id)
		}
		w.cancelTag(c.tag, c.count)
		w.waits(len(c.left), c.left[0])
		w.cancelTag(c.tag, 0)
		for _, one := range list {
			if !slices.Contains(c.left, one) {
				w.cancel(one.Id, false)
			}
		}
		w.empties(c.left...)
		w.cancelTag(c.tag, 0)
	}
}

func TestP5_1CancelTagThatAllHave(t *testing.T) {
	for _, tag := range []int{api.MinInt, -1, 0, 1, api.MaxInt} {
		for _, count := range []int{1, 2, 3, 10, api.MaxTimers} {
			w := newWatched(t)
			for i := range count {
				w.add(i*13%97, tag, i+1)
			}
			w.cancelTag(tag+1, 0)
			w.cancelTag(tag, count)
			w.waits(0)
			w.cancelTag(tag, 0)
			w.due(api.MaxInt)
			w.cancel(1, false)
			w.cancel(count, false)
			w.add(5, tag, count+1)
			w.empties(api.Timer{Due: 5, Tag: tag, Id: count + 1})
		}
	}
}

func TestP5_2DueBelowAtAndAboveEach(t *testing.T) {
	list := []api.Timer{{Due: -5, Tag: 1, Id: 3}, {Due: 0, Tag: 2, Id: 4}, {Due: 5, Tag: 3, Id: 1}, {Due: 8, Tag: 4, Id: 2}}
	added := func(t *testing.T) watched {
		w := newWatched(t)
		w.add(5, 3, 1)
		w.add(8, 4, 2)
		w.add(-5, 1, 3)
		w.add(0, 2, 4)
		w.waits(4, list[0])
		return w
	}
	for i, one := range list {
		w := added(t)
		w.due(one.Due-1, list[:i]...)
		w.waits(4-i, one)
		w.due(one.Due - 1)
		w.waits(4-i, one)
		w.due(one.Due, one)
		w.due(one.Due)
		w.empties(list[i+1:]...)

		w = added(t)
		w.due(one.Due, list[:i+1]...)
		w.empties(list[i+1:]...)

		w = added(t)
		w.due(one.Due+1, list[:i+1]...)
		w.empties(list[i+1:]...)
	}
}

func TestP5_2TimesMayFall(t *testing.T) {
	w := newWatched(t)
	w.add(10, 0, 1)
	w.due(10, api.Timer{Due: 10, Id: 1})
	w.add(3, 0, 2)
	w.add(10, 0, 3)
	w.due(2)
	w.due(3, api.Timer{Due: 3, Id: 2})
	w.due(-10)
	w.empties(api.Timer{Due: 10, Id: 3})
}

func TestP5_2EndsOfNumbers(t *testing.T) {
	w := newWatched(t)
	w.add(api.MaxInt, api.MinInt, 1)
	w.add(0, 0, 2)
	w.add(api.MinInt, api.MaxInt, 3)
	w.add(api.MaxInt-1, -1, 4)
	w.add(api.MinInt+1, 1, 5)
	w.add(-1, 0, 6)
	w.waits(6, api.Timer{Due: api.MinInt, Tag: api.MaxInt, Id: 3})
	w.due(api.MinInt, api.Timer{Due: api.MinInt, Tag: api.MaxInt, Id: 3})
	w.waits(5, api.Timer{Due: api.MinInt + 1, Tag: 1, Id: 5})
	w.due(api.MinInt)
	w.due(api.MinInt+1, api.Timer{Due: api.MinInt + 1, Tag: 1, Id: 5})
	w.due(-2)
	w.due(-1, api.Timer{Due: -1, Id: 6})
	w.due(api.MaxInt-2, api.Timer{Id: 2})
	w.due(api.MaxInt-1, api.Timer{Due: api.MaxInt - 1, Tag: -1, Id: 4})
	w.waits(1, api.Timer{Due: api.MaxInt, Tag: api.MinInt, Id: 1})
	w.due(api.MaxInt, api.Timer{Due: api.MaxInt, Tag: api.MinInt, Id: 1})
	w.waits(0)
}

func TestP5_2AlikeDueComeByNumbers(t *testing.T) {
	w := newWatched(t)
	for id := 1; id <= 100; id++ {
		w.add(id%3, 100-id, id)
	}
	for due := range 3 {
		var want []api.Timer
		for id := 1; id <= 100; id++ {
			if id%3 == due {
				want = append(want, api.Timer{Due: due, Tag: 100 - id, Id: id})
			}
		}
		w.due(due, want...)
	}
	w.waits(0)
}

func TestP5_2AlikeDueWhateverWasCancelled(t *testing.T) {
	source := rand.New(rand.NewSource(1))
	for range 300 {
		w := newWatched(t)
		count := 1 + source.Intn(60)
		var kept []api.Timer
		for id := 1; id <= count; id++ {
			one := api.Timer{Due: source.Intn(3), Tag: source.Intn(4), Id: id}
			w.add(one.Due, one.Tag, id)
			kept = append(kept, one)
			for source.Intn(3) == 0 && len(kept) > 0 {
				place := source.Intn(len(kept))
				w.cancel(kept[place].Id, true)
				kept = slices.Delete(kept, place, place+1)
			}
		}
		tag, before := source.Intn(5), len(kept)
		kept = slices.DeleteFunc(kept, func(one api.Timer) bool { return one.Tag == tag })
		w.cancelTag(tag, before-len(kept))
		w.empties(inOrder(kept)...)
	}
}

func TestP5_2NextIsTheFirst(t *testing.T) {
	w := newWatched(t)
	w.add(5, 1, 1)
	w.waits(1, api.Timer{Due: 5, Tag: 1, Id: 1})
	w.add(6, 2, 2)
	w.waits(2, api.Timer{Due: 5, Tag: 1, Id: 1})
	w.add(5, 3, 3)
	w.waits(3, api.Timer{Due: 5, Tag: 1, Id: 1})
	w.add(4, 4, 4)
	w.waits(4, api.Timer{Due: 4, Tag: 4, Id: 4})
	w.cancel(1, true)
	w.waits(3, api.Timer{Due: 4, Tag: 4, Id: 4})
	w.cancel(4, true)
	w.waits(2, api.Timer{Due: 5, Tag: 3, Id: 3})
	w.cancelTag(3, 1)
	w.waits(1, api.Timer{Due: 6, Tag: 2, Id: 2})
	w.due(6, api.Timer{Due: 6, Tag: 2, Id: 2})
	w.waits(0)
}

func TestP5_2QueuesAreApart(t *testing.T) {
	a, b := newWatched(t), newWatched(t)
	a.add(5, 1, 1)
	a.add(6, 1, 2)
	b.waits(0)
	b.add(4, 1, 1)
	b.cancelTag(1, 1)
	b.cancel(2, false)
	a.waits(2, api.Timer{Due: 5, Tag: 1, Id: 1})
	b.waits(0)
	a.empties(api.Timer{Due: 5, Tag: 1, Id: 1}, api.Timer{Due: 6, Tag: 1, Id: 2})
}

func TestP5_3DueIsNewMemory(t *testing.T) {
	for count := range 20 {
		w := newWatched(t)
		var came, left []api.Timer
		for i := range count {
			w.add(i%5, i, i+1)
			one := api.Timer{Due: i % 5, Tag: i, Id: i + 1}
			if one.Due <= 2 {
				came = append(came, one)
			} else {
				left = append(left, one)
			}
		}
		first := w.x.Due(2)
		if !slices.Equal(first, inOrder(came)) {
			t.Fatalf("Due: %v, not %v", first, inOrder(came))
		}
		spoil(first)
		w.add(4, 99, count+1)
		rest := inOrder(append(left, api.Timer{Due: 4, Tag: 99, Id: count + 1}))
		w.waits(len(rest), rest[0])
		second := w.x.Due(api.MaxInt)
		if !slices.Equal(second, rest) {
			t.Fatalf("behind a spoilt answer: %v, not %v", second, rest)
		}
		for _, one := range first[:cap(first)] {
			if one != spoilt {
				t.Fatalf("the first answer turned: %v", first)
			}
		}
		spoil(second)
		w.waits(0)
		w.add(6, 0, count+2)
		w.empties(api.Timer{Due: 6, Id: count + 2})
	}
}

// spoilt is what a test writes over an answer: were it in a queue, it would
// be the first there.
var spoilt = api.Timer{Due: api.MinInt, Tag: -7, Id: -7}

// spoil writes over all that a list has, its spare room too.
func spoil(list []api.Timer) {
	list = list[:cap(list)]
	for i := range list {
		list[i] = spoilt
	}
}

func TestP5_3LaterCallsTurnNoAnswer(t *testing.T) {
	w := newWatched(t)
	for i := range 30 {
		w.add(i/2, i, i+1)
	}
	came := w.x.Due(6)
	next, _ := w.x.Next()
	copied := slices.Clone(came)
	for i := range 30 {
		w.add(i/3-5, i, i+31)
	}
	w.cancelTag(20, 2)
	w.x.Due(api.MaxInt)
	if !slices.Equal(came, copied) || len(came) != 14 {
		t.Errorf("an answer turned: %v, not %v", came, copied)
	}
	if next != (api.Timer{Due: 7, Tag: 14, Id: 15}) {
		t.Errorf("Next: %v", next)
	}
}

func TestP5_3NextIsNewMemory(t *testing.T) {
	w := newWatched(t)
	w.add(5, 1, 1)
	w.add(6, 2, 2)
	next, _ := w.x.Next()
	next = spoilt
	w.waits(2, api.Timer{Due: 5, Tag: 1, Id: 1})
	w.cancelTag(next.Tag, 0)
	w.cancel(next.Id, false)
	w.empties(api.Timer{Due: 5, Tag: 1, Id: 1}, api.Timer{Due: 6, Tag: 2, Id: 2})
}

// TestP5_4EachComesOutOnce lets time go on by steps of one: each timer comes
// at its own time alone, but those that are late when they are added.
func TestP5_4EachComesOutOnce(t *testing.T) {
	source := rand.New(rand.NewSource(2))
	for range 100 {
		x := timer.New()
		dues, cancelled, came := map[int]int{}, map[int]int{}, map[int]int{}
		for now := -30; now <= 60; now++ {
			for range source.Intn(4) {
				due := now + source.Intn(40) - 5
				id, err := x.Add(due, 0)
				if err != api.OK {
					t.Fatalf("Add: error %d", err)
				}
				dues[id] = max(due, now)
			}
			if id := 1 + source.Intn(len(dues)+1); source.Intn(3) == 0 && x.Cancel(id) {
				cancelled[id]++
			}
			list := x.Due(now)
			if !slices.IsSortedFunc(list, ahead) {
				t.Fatalf("Due(%d): %v", now, list)
			}
			for _, one := range list {
				came[one.Id]++
				if dues[one.Id] != now {
					t.Fatalf("%v came at %d, not at %d", one, now, dues[one.Id])
				}
			}
		}
		for _, one := range x.Due(api.MaxInt) {
			came[one.Id]++
		}
		for id := range dues {
			if came[id]+cancelled[id] != 1 {
				t.Fatalf("timer %d came %d times and was cancelled %d times", id, came[id], cancelled[id])
			}
		}
	}
}

func TestP5_4StepsOfDueComeAsAtOnce(t *testing.T) {
	source := rand.New(rand.NewSource(3))
	for range 200 {
		steps, whole := timer.New(), timer.New()
		for range 1 + source.Intn(80) {
			due, tag := source.Intn(50)-25, source.Intn(3)
			steps.Add(due, tag)
			whole.Add(due, tag)
		}
		var came []api.Timer
		for now := -25; now < 25; now += 1 + source.Intn(9) {
			came = append(came, steps.Due(now)...)
		}
		came = append(came, steps.Due(25)...)
		if want := whole.Due(25); !slices.Equal(came, want) || !slices.IsSortedFunc(want, ahead) {
			t.Fatalf("in steps %v, at once %v", came, want)
		}
	}
}

func TestP5_5NumbersAreNeverUsedTwice(t *testing.T) {
	source := rand.New(rand.NewSource(4))
	x := timer.New()
	given := map[int]bool{}
	for last := 0; last < 20000; {
		id, err := x.Add(source.Intn(1000), source.Intn(5))
		switch {
		case err == api.ErrFull && x.Len() == api.MaxTimers:
			x.Due(source.Intn(1000))
			continue
		case err != api.OK || given[id] || id != last+1:
			t.Fatalf("behind number %d: %d, error %d", last, id, err)
		}
		last, given[id] = id, true
		switch source.Intn(40) {
		case 0:
			x.CancelTag(source.Intn(5))
		case 1:
			x.Due(source.Intn(100))
		case 2, 3, 4, 5:
			x.Cancel(1 + source.Intn(last))
		}
	}
}

// ahead is the order of timers.
func ahead(a, b api.Timer) int {
	return cmp.Or(cmp.Compare(a.Due, b.Due), cmp.Compare(a.Id, b.Id))
}

func inOrder(list []api.Timer) []api.Timer {
	return slices.SortedFunc(slices.Values(list), ahead)
}

// plain is a queue as the document tells it: all timers in their order, and
// the last one's number.
type plain struct {
	timers []api.Timer
	last   int
}

func (p *plain) add(due, tag int) (int, api.Errno) {
	if len(p.timers) == api.MaxTimers {
		return 0, api.ErrFull
	}
	p.last++
	p.timers = inOrder(append(p.timers, api.Timer{Due: due, Tag: tag, Id: p.last}))
	return p.last, api.OK
}

// drop takes away all timers of which gone tells so, and answers them.
func (p *plain) drop(gone func(api.Timer) bool) []api.Timer {
	var out []api.Timer
	for _, one := range p.timers {
		if gone(one) {
			out = append(out, one)
		}
	}
	p.timers = slices.DeleteFunc(p.timers, gone)
	return out
}

// turn makes one call of both and holds the one against the other.
func turn(w watched, p *plain, source *rand.Rand, someTime func() int) {
	w.t.Helper()
	tag := source.Intn(6)
	switch source.Intn(12) {
	case 0, 1:
		id := source.Intn(p.last + 2)
		w.cancel(id, len(p.drop(func(one api.Timer) bool { return one.Id == id })) == 1)
	case 2:
		w.cancelTag(tag, len(p.drop(func(one api.Timer) bool { return one.Tag == tag })))
	case 3, 4:
		now := someTime()
		w.due(now, p.drop(func(one api.Timer) bool { return one.Due <= now })...)
	default:
		due := someTime()
		wantId, wantErr := p.add(due, tag)
		if id, err := w.x.Add(due, tag); id != wantId || err != wantErr {
			w.t.Fatalf("Add(%d, %d): %d, error %d, not %d, %d", due, tag, id, err, wantId, wantErr)
		}
	}
	w.waits(len(p.timers), p.timers[:min(1, len(p.timers))]...)
}

func TestP5_4CallsAreAsTold(t *testing.T) {
	source := rand.New(rand.NewSource(5))
	ends := []int{api.MinInt, api.MinInt + 1, -1, 0, 1, api.MaxInt - 1, api.MaxInt}
	times := []func() int{
		func() int { return source.Intn(12) - 6 },
		func() int { return source.Intn(1000) },
		func() int { return int(source.Uint64()) },
		func() int { return ends[source.Intn(len(ends))] },
	}
	for round := range 400 {
		w, p := newWatched(t), &plain{}
		for range 200 {
			turn(w, p, source, times[round%len(times)])
		}
		w.empties(p.timers...)
	}
}
