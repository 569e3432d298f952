package pile

import (
	"math"
	"runtime"
	"slices"
	"testing"
	"weak"

	"whilom/api"
)

// wantPush lays a value upon a pile that has room for it.
func wantPush[T comparable](t *testing.T, p *Pile[T], v T) {
	t.Helper()
	var zero T
	if got, gone := p.Push(v); gone || got != zero {
		t.Errorf("P4.2: Push(%v): %v, %v; want none", v, got, gone)
	}
}

// wantGone lays a value upon a pile that lets another one go for it.
func wantGone[T comparable](t *testing.T, p *Pile[T], v, want T) {
	t.Helper()
	if got, gone := p.Push(v); !gone || got != want {
		t.Errorf("P4.2: Push(%v): %v, %v; want %v", v, got, gone, want)
	}
}

// wantTop looks twice at the value upon all others, which stays.
func wantTop[T comparable](t *testing.T, p *Pile[T], want T) {
	t.Helper()
	for range 2 {
		if got, found := p.Top(); !found || got != want {
			t.Errorf("P4.3: Top: %v, %v; want %v", got, found, want)
		}
	}
}

// wantPop takes the value upon all others away.
func wantPop[T comparable](t *testing.T, p *Pile[T], want T) {
	t.Helper()
	if got, found := p.Pop(); !found || got != want {
		t.Errorf("P4.3: Pop: %v, %v; want %v", got, found, want)
	}
}

// wantList holds Len and List, and Top, to the values that a pile has.
func wantList[T comparable](t *testing.T, p *Pile[T], want ...T) {
	t.Helper()
	if got := p.List(); !slices.Equal(got, want) || p.Len() != len(want) {
		t.Errorf("P4.1: List: %v, Len: %d; want %v", got, p.Len(), want)
	}
	if n := len(want); n > 0 {
		wantTop(t, p, want[n-1])
	}
}

// wantEmpty holds all calls but Push to it that there is no value, and that none comes by them.
func wantEmpty[T comparable](t *testing.T, p *Pile[T]) {
	t.Helper()
	var zero T
	for range 2 {
		if got, found := p.Pop(); found || got != zero {
			t.Errorf("P4.3: Pop of an empty pile: %v, %v; want none", got, found)
		}
		if got, found := p.Top(); found || got != zero {
			t.Errorf("P4.3: Top of an empty pile: %v, %v; want none", got, found)
		}
		wantList(t, p)
	}
}

func TestNewByHand(t *testing.T) {
	for _, r := range []struct{ limit, want int }{
		{math.MinInt, 0}, {-1 << 32, 0}, {-10000, 0}, {-1, 0}, {0, 0}, {1, 1}, {2, 2}, {3, 3}, {1000, 1000},
		{9999, 9999}, {10000, 10000}, {10001, 10000}, {20000, 10000}, {1 << 32, 10000}, {1<<32 + 1, 10000}, {math.MaxInt, 10000},
	} {
		p := New[int](r.limit)
		wantEmpty(t, p)
		for i := range r.want {
			if got, gone := p.Push(i + 7); gone || got != 0 {
				t.Fatalf("P4.1: New(%d): Push with %d values: %d, %v; want none", r.limit, i, got, gone)
			}
			if p.Len() != i+1 {
				t.Fatalf("P4.1: New(%d): Len %d; want %d", r.limit, p.Len(), i+1)
			}
		}
		for i := range 3 {
			wantGone(t, p, r.want+i+7, i+7)
			if p.Len() != r.want {
				t.Errorf("P4.1: New(%d): Len %d behind a Push of too many; want %d", r.limit, p.Len(), r.want)
			}
		}
	}
}

func TestTheLimitIsTheOneOfApi(t *testing.T) {
	p := New[int](math.MaxInt)
	for i := range api.MaxPile {
		p.Push(i)
	}
	if p.Len() != api.MaxPile {
		t.Errorf("P4.1: Len %d; want %d", p.Len(), api.MaxPile)
	}
	wantGone(t, p, -1, 0)
}

func TestTheExample(t *testing.T) {
	p := New[string](2)
	wantPush(t, p, "a")
	wantPush(t, p, "b")
	wantGone(t, p, "c", "a")
	wantPop(t, p, "c")
	wantPop(t, p, "b")
	wantEmpty(t, p)
}

func TestPushLetsTheOldestGo(t *testing.T) {
	p := New[string](3)
	wantPush(t, p, "a")
	wantList(t, p, "a")
	wantPush(t, p, "b")
	wantList(t, p, "a", "b")
	wantPush(t, p, "c")
	wantList(t, p, "a", "b", "c")
	wantGone(t, p, "d", "a")
	wantList(t, p, "b", "c", "d")
	wantPop(t, p, "d") // from then on there is room for one
	wantList(t, p, "b", "c")
	wantPush(t, p, "e")
	wantList(t, p, "b", "c", "e")
	wantGone(t, p, "f", "b")
	wantGone(t, p, "g", "c")
	wantGone(t, p, "h", "e")
	wantGone(t, p, "i", "f") // more than a whole lap
	wantList(t, p, "g", "h", "i")
}

func TestALimitOfNone(t *testing.T) {
	for _, limit := range []int{0, -1, math.MinInt} {
		p := New[string](limit)
		for _, v := range []string{"a", "b", "", "a"} {
			wantGone(t, p, v, v)
			wantEmpty(t, p)
		}
		p.Clear()
		wantGone(t, p, "c", "c")
		wantEmpty(t, p)
	}
}

func TestALimitOfOne(t *testing.T) {
	p := New[string](1)
	wantPush(t, p, "a")
	wantGone(t, p, "b", "a")
	wantGone(t, p, "c", "b")
	wantList(t, p, "c")
	wantPop(t, p, "c")
	wantEmpty(t, p)
	wantPush(t, p, "d")
	wantGone(t, p, "e", "d")
}

func TestTopAndPop(t *testing.T) {
	p := New[int](4)
	wantEmpty(t, p)
	for i := range 6 {
		p.Push(i)
	}
	wantTop(t, p, 5)
	wantList(t, p, 2, 3, 4, 5) // Top took nothing away
	wantPop(t, p, 5)
	wantTop(t, p, 4)
	wantPop(t, p, 4)
	wantList(t, p, 2, 3)
	wantPop(t, p, 3)
	wantTop(t, p, 2)
	wantPop(t, p, 2)
	wantEmpty(t, p)
	wantPush(t, p, 9) // one that became empty is as a new one
	wantList(t, p, 9)
}

func TestClear(t *testing.T) {
	for pushed := range 9 {
		p := New[int](3)
		p.Clear()
		wantEmpty(t, p)
		for i := range pushed {
			p.Push(i)
		}
		kept := p.List()
		want := slices.Clone(kept)
		p.Clear()
		wantEmpty(t, p)
		p.Clear()
		wantEmpty(t, p)
		wantPush(t, p, 10) // the limit stays
		wantPush(t, p, 11)
		wantPush(t, p, 12)
		wantGone(t, p, 13, 10)
		wantList(t, p, 11, 12, 13)
		if !slices.Equal(kept, want) {
			t.Errorf("P4.4: List became %v by Clear and Push; want %v", kept, want)
		}
	}
}

func TestZeroValuesAreValues(t *testing.T) {
	p := New[int](2)
	wantPush(t, p, 0)
	wantTop(t, p, 0)
	wantPush(t, p, 0)
	wantGone(t, p, 0, 0)
	wantGone(t, p, 1, 0)
	wantList(t, p, 0, 1)
	wantPop(t, p, 1)
	wantPop(t, p, 0)
	wantEmpty(t, p)
}

func TestEqualValuesAreEachOneForItself(t *testing.T) {
	p := New[string](3)
	for range 3 {
		wantPush(t, p, "a")
	}
	wantList(t, p, "a", "a", "a")
	wantGone(t, p, "b", "a")
	wantList(t, p, "a", "a", "b")
	wantPop(t, p, "b")
	wantPop(t, p, "a")
	wantList(t, p, "a")
}

func TestTwoPilesShareNothing(t *testing.T) {
	p, q := New[int](2), New[int](2)
	wantPush(t, p, 1)
	wantEmpty(t, q)
	wantPush(t, q, 2)
	p.Clear()
	wantList(t, q, 2)
	wantEmpty(t, p)
}

func TestListIsNewMemory(t *testing.T) {
	p := New[int](4)
	for i := range 6 {
		p.Push(i)
	}
	wantPop(t, p, 5) // spare room, within the pile too
	first, second := p.List(), p.List()
	for _, list := range [][]int{first, second} {
		for i := range list[:cap(list)] {
			list[:cap(list)][i] = -1 // its spare room included
		}
	}
	wantList(t, p, 2, 3, 4)
	first = p.List()
	for i := range second[:cap(second)] {
		second[:cap(second)][i] = -2
	}
	wantPush(t, p, 6)
	wantGone(t, p, 7, 2)
	wantPop(t, p, 7)
	wantPush(t, p, 8)
	p.Clear()
	wantPush(t, p, 9)
	if want := []int{2, 3, 4}; !slices.Equal(first, want) {
		t.Errorf("P4.4: List became %v; want %v", first, want)
	}
}

// TestListsSpareRoom: what is laid upon an answer lies beside the pile, and what is laid upon the pile beside the answer.
func TestListsSpareRoom(t *testing.T) {
	p := New[string](9)
	for _, v := range []string{"a", "b", "c", "d", "e"} {
		wantPush(t, p, v)
	}
	list := append(p.List(), "x")
	wantPush(t, p, "f")
	if list[5] != "x" {
		t.Errorf("P4.4: what was laid upon List became %q", list[5])
	}
	wantList(t, p, "a", "b", "c", "d", "e", "f")
	for range 6 {
		p.Pop()
	}
	empty := append(p.List(), "y")
	wantPush(t, p, "g")
	if empty[0] != "y" {
		t.Errorf("P4.4: what was laid upon an empty List became %q", empty[0])
	}
	wantList(t, p, "g")
}

func TestValuesAreHandedInAndOutAsTheyAre(t *testing.T) {
	room := []int{1, 2, 3, 4, 5}
	same := func(call string, got []int) {
		t.Helper()
		if len(got) != 3 || cap(got) != 5 || &got[0] != &room[0] {
			t.Errorf("P4.4: %s: another list, %v of %d", call, got, cap(got))
		}
	}
	p := New[[]int](1)
	p.Push(room[:3])
	got, _ := p.Top()
	same("Top", got)
	same("List", p.List()[0])
	room[1] = 7
	if got, _ = p.Top(); got[1] != 7 {
		t.Errorf("P4.4: Top: %v; want what the list became", got)
	}
	got, _ = p.Push(nil)
	same("Push", got)
	if got, found := p.Top(); !found || got != nil {
		t.Errorf("P4.4: Top: %v, %v; want nil", got, found)
	}
	p.Push([]int{})
	if got, found := p.Pop(); !found || got == nil || len(got) != 0 {
		t.Errorf("P4.4: Pop: %v, %v; want an empty list", got, found)
	}
	p.Push(room[:3])
	got, _ = p.Pop()
	same("Pop", got)
	got, _ = New[[]int](0).Push(room[:3])
	same("Push with a limit of 0", got)
	if want := []int{1, 7, 3, 4, 5}; !slices.Equal(room, want) {
		t.Errorf("P4.4: the list became %v; want %v", room, want)
	}
}

func TestValuesOfAnyType(t *testing.T) {
	type pair struct {
		numbers [2]int
		next    *int
	}
	n := 5
	p := New[pair](2)
	wantPush(t, p, pair{[2]int{1, 2}, &n})
	got, _ := p.Top()
	got.numbers[0], got.next = 9, nil // a copy of its own, which isn't what the pile has
	wantPop(t, p, pair{[2]int{1, 2}, &n})
	wantEmpty(t, p)

	things := New[any](2)
	wantPush[any](t, things, nil)
	wantPush[any](t, things, "a")
	wantGone[any](t, things, &n, nil)
	wantPop[any](t, things, &n)
	wantPop[any](t, things, "a")
	wantEmpty(t, things)
	things.Push(math.NaN())
	if v, found := things.Pop(); !found || v == v {
		t.Errorf("P4.4: Pop: %v, %v; want what was pushed", v, found)
	}
	things.Push([]int{1}) // one that can't be held against another
	if v, found := things.Pop(); !found || len(v.([]int)) != 1 {
		t.Errorf("P4.4: Pop: %v, %v; want what was pushed", v, found)
	}

	calls := New[func() int](1)
	calls.Push(func() int { return n })
	if call, found := calls.Pop(); !found || call() != 5 {
		t.Errorf("P4.4: Pop: another function")
	}
	if call, found := calls.Pop(); found || call != nil {
		t.Errorf("P4.3: Pop of an empty pile: a function")
	}
	if edits, gone := New[[]api.Edit](1).Push([]api.Edit{{Kind: api.EditAdd}}); gone || edits != nil {
		t.Errorf("P4.2: Push: %v, %v; want none", edits, gone)
	}

	empty := New[struct{}](2)
	wantPush(t, empty, struct{}{})
	wantPush(t, empty, struct{}{})
	wantGone(t, empty, struct{}{}, struct{}{})
	wantList(t, empty, struct{}{}, struct{}{})
}

// big is a value that has its memory to itself.
type big [64]int

// watched lays new values upon a pile, and tells of each which ones still have memory.
func watched(p *Pile[*big], n int) []weak.Pointer[big] {
	var list []weak.Pointer[big]
	for range n {
		v := new(big)
		list = append(list, weak.Make(v))
		p.Push(v)
	}
	return list
}

// kept is how many values still have memory.
func kept(list []weak.Pointer[big]) int {
	runtime.GC()
	n := 0
	for _, w := range list {
		if w.Value() != nil {
			n++
		}
	}
	return n
}

// TestWhatIsLetGoIsntKept: a pile leads to its values alone, not to those that it had.
func TestWhatIsLetGoIsntKept(t *testing.T) {
	p := New[*big](4)
	list := watched(p, 7)
	if got := kept(list); got != 4 || kept(list[:3]) != 0 {
		t.Errorf("P4.2: %d of 7 values are kept by a pile of 4, %d of the oldest 3", got, kept(list[:3]))
	}
	p.Pop()
	p.Pop()
	if got := kept(list); got != 2 {
		t.Errorf("P4.3: %d values are kept behind Pop; want 2", got)
	}
	p.Clear()
	if got := kept(list); got != 0 {
		t.Errorf("P4.1: %d values are kept behind Clear; want 0", got)
	}
	none := New[*big](0)
	if got := kept(watched(none, 3)); got != 0 {
		t.Errorf("P4.2: %d values are kept with a limit of 0", got)
	}
	runtime.KeepAlive(p)
	runtime.KeepAlive(none)
}

// dice are numbers in no order, the same ones at each run.
type dice uint64

func (d *dice) below(n int) int {
	*d ^= *d << 13
	*d ^= *d >> 7
	*d ^= *d << 17
	return int(uint64(*d) % uint64(n))
}

// plain is a pile as the chapter tells it, without a thought for how long a call takes: the newest one stands first.
type plain struct {
	limit  int
	values []int
}

func (q *plain) push(v int) (int, bool) {
	q.values = append([]int{v}, q.values...)
	if n := len(q.values) - 1; n >= q.limit {
		oldest := q.values[n]
		q.values = slices.Clone(q.values[:n])
		return oldest, true
	}
	return 0, false
}

func (q *plain) top() (int, bool) {
	if len(q.values) == 0 {
		return 0, false
	}
	return q.values[0], true
}

func (q *plain) pop() (int, bool) {
	v, found := q.top()
	if found {
		q.values = slices.Clone(q.values[1:])
	}
	return v, found
}

// step does one call on both piles, and tells whether they answer alike.
func step(d *dice, p *Pile[int], q *plain, pushes int) bool {
	var got, want int
	var ok, is bool
	switch n := d.below(100); {
	case n < pushes:
		v := d.below(1000)
		got, ok = p.Push(v)
		want, is = q.push(v)
	case n < 90:
		got, ok = p.Pop()
		want, is = q.pop()
	case n < 99:
		got, ok = p.Top()
		want, is = q.top()
	default:
		p.Clear()
		q.values = nil
	}
	return got == want && ok == is && p.Len() == len(q.values)
}

func TestAgainstAPlainPile(t *testing.T) {
	for seed := 1; seed <= 60; seed++ {
		d := dice(seed * 0x9E3779B9)
		limit := []int{0, 1, 2, 3, 7, 40}[seed%6]
		pushes := []int{30, 45, 60, 80}[seed%4]
		p, q := New[int](limit), &plain{limit: limit}
		for i := range 2000 {
			if !step(&d, p, q, pushes) {
				t.Fatalf("P4.2, P4.3: seed %d: call %d is answered otherwise than by a plain pile", seed, i)
			}
			want := slices.Clone(q.values)
			slices.Reverse(want)
			if got := p.List(); !slices.Equal(got, want) {
				t.Fatalf("P4.1: seed %d: List behind call %d: %v; want %v", seed, i, got, want)
			}
		}
	}
}

func TestManyLapsOfTheGreatestLimit(t *testing.T) {
	p := New[int](api.MaxPile)
	for i := range 5 * api.MaxPile {
		got, gone := p.Push(i)
		if gone != (i >= api.MaxPile) || got != max(i-api.MaxPile, 0) {
			t.Fatalf("P4.2: Push %d: %d, %v", i, got, gone)
		}
	}
	for i := 5*api.MaxPile - 1; i >= 4*api.MaxPile; i-- {
		if got, found := p.Pop(); !found || got != i {
			t.Fatalf("P4.3: Pop: %d, %v; want %d", got, found, i)
		}
	}
	wantEmpty(t, p)
}
