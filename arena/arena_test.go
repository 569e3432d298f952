package arena

import (
	"math"
	"slices"
	"testing"

	"whilom/api"
)

// put puts a value that there must be room for.
func put[T any](t *testing.T, p *Pool[T], v T) api.Ref {
	t.Helper()
	r, ok := p.Put(v)
	if !ok {
		t.Fatalf("P3.2: Put(%v): refused with %d of %d", v, p.Len(), p.Cap())
	}
	return r
}

// wantPut puts a value and holds its handle against the one that is right.
func wantPut[T any](t *testing.T, p *Pool[T], v T, want api.Ref) {
	t.Helper()
	if r, ok := p.Put(v); !ok || r != want {
		t.Errorf("P3.2: Put(%v): %v, %v; want %v", v, r, ok, want)
	}
}

// wantDrop drops a value that must be there.
func wantDrop[T comparable](t *testing.T, p *Pool[T], r api.Ref, want T) {
	t.Helper()
	if v, ok := p.Drop(r); !ok || v != want {
		t.Errorf("P3.2: Drop(%v): %v, %v; want %v", r, v, ok, want)
	}
}

// wantGet gets a value that must be there.
func wantGet[T comparable](t *testing.T, p *Pool[T], r api.Ref, want T) {
	t.Helper()
	if v, ok := p.Get(r); !ok || v != want {
		t.Errorf("P3.2: Get(%v): %v, %v; want %v", r, v, ok, want)
	}
}

// wantDead holds all calls to it that a handle doesn't live, and that nothing changes by them.
func wantDead[T comparable](t *testing.T, p *Pool[T], r api.Ref, v T) {
	t.Helper()
	var zero T
	held, visits := p.Len(), p.Visits()
	if got, ok := p.Get(r); ok || got != zero {
		t.Errorf("P3.2: Get(%v): %v, %v; want none", r, got, ok)
	}
	if p.Set(r, v) {
		t.Errorf("P3.2: Set(%v): true; want false", r)
	}
	if got, ok := p.Drop(r); ok || got != zero {
		t.Errorf("P3.2: Drop(%v): %v, %v; want none", r, got, ok)
	}
	if p.Len() != held {
		t.Errorf("P3.2: %v, which doesn't live, changed Len from %d to %d", r, held, p.Len())
	}
	if p.Visits() != visits {
		t.Errorf("P3.3: %v, which doesn't live, changed Visits from %d to %d", r, visits, p.Visits())
	}
}

// wantFull holds Put to it that there is no room.
func wantFull[T any](t *testing.T, p *Pool[T], v T) {
	t.Helper()
	if r, ok := p.Put(v); ok || r != (api.Ref{}) {
		t.Errorf("P3.2: Put(%v) with %d of %d: %v, %v; want none", v, p.Len(), p.Cap(), r, ok)
	}
	if p.Len() != p.Cap() {
		t.Errorf("P3.2: %d of %d after a Put that was refused", p.Len(), p.Cap())
	}
}

// near are handles that differ from r, in ways that a narrower number or a lesser check would miss; none of the ones that live.
func near(r api.Ref, live ...api.Ref) []api.Ref {
	list := []api.Ref{{Index: r.Index}, {Index: -r.Index - 1, Gen: r.Gen}, {Index: r.Index, Gen: -r.Gen}}
	for _, n := range []int{1, -1, 2, -2, 1 << 8, 1 << 16, 1 << 24, 1 << 31, 1 << 32, -1 << 32, 1 << 62, math.MinInt, math.MaxInt} {
		list = append(list, api.Ref{Index: r.Index, Gen: r.Gen + n}, api.Ref{Index: r.Index + n, Gen: r.Gen}, api.Ref{Index: r.Index + n, Gen: r.Gen + n})
	}
	return slices.DeleteFunc(list, func(x api.Ref) bool { return slices.Contains(live, x) })
}

func TestNewByHand(t *testing.T) {
	for _, r := range []struct{ capacity, want int }{
		{math.MinInt, 0}, {-1 << 32, 0}, {-16777216, 0}, {-2, 0}, {-1, 0}, {0, 0}, {1, 1}, {2, 2}, {1000, 1000},
		{16777215, 16777215}, {16777216, 16777216}, {16777217, 16777216}, {1 << 32, 16777216}, {1<<32 + 1, 16777216}, {1 << 62, 16777216}, {math.MaxInt, 16777216},
	} {
		p := New[string](r.capacity)
		if p.Cap() != r.want || p.Len() != 0 || p.Visits() != 0 {
			t.Errorf("P3.1: New(%d): Cap %d, Len %d, Visits %d; want %d, 0, 0", r.capacity, p.Cap(), p.Len(), p.Visits(), r.want)
		}
		for _, ref := range []api.Ref{{}, {Gen: 1}, {Index: -1}, {Index: 1, Gen: 1}, {Index: math.MaxInt, Gen: 1}, {Index: math.MinInt, Gen: 1}} {
			wantDead(t, p, ref, "x")
		}
		if r.want == 0 {
			wantFull(t, p, "x")
		} else {
			wantPut(t, p, "x", api.Ref{Gen: 1})
		}
		if p.Cap() != r.want {
			t.Errorf("P3.1: Cap became %d; want %d", p.Cap(), r.want)
		}
	}
}

func TestFilledToTheLastCell(t *testing.T) {
	p := New[struct{}](math.MaxInt)
	for i := range api.MaxCells {
		if r, ok := p.Put(struct{}{}); !ok || r != (api.Ref{Index: i, Gen: 1}) {
			t.Fatalf("P3.1: Put with %d of %d: %v, %v", i, p.Cap(), r, ok)
		}
	}
	wantFull(t, p, struct{}{})
	wantDrop(t, p, api.Ref{Index: api.MaxCells - 1, Gen: 1}, struct{}{})
	wantPut(t, p, struct{}{}, api.Ref{Index: api.MaxCells - 1, Gen: 2})
	wantFull(t, p, struct{}{})
}

func TestTheExample(t *testing.T) {
	p := New[int](2)
	wantPut(t, p, 10, api.Ref{Index: 0, Gen: 1})
	wantPut(t, p, 11, api.Ref{Index: 1, Gen: 1})
	wantDrop(t, p, api.Ref{Index: 0, Gen: 1}, 10)
	wantPut(t, p, 12, api.Ref{Index: 0, Gen: 2})
	wantGet(t, p, api.Ref{Index: 0, Gen: 2}, 12)
	wantGet(t, p, api.Ref{Index: 1, Gen: 1}, 11)
	wantDead(t, p, api.Ref{Index: 0, Gen: 1}, 13)
}

func TestTheNextCellIsTheOneFreedLast(t *testing.T) {
	p := New[string](6)
	for i, v := range []string{"a", "b", "c", "d"} {
		wantPut(t, p, v, api.Ref{Index: i, Gen: 1})
	}
	wantDrop(t, p, api.Ref{Index: 1, Gen: 1}, "b")
	wantDrop(t, p, api.Ref{Index: 3, Gen: 1}, "d")
	wantDrop(t, p, api.Ref{Index: 0, Gen: 1}, "a")
	wantPut(t, p, "e", api.Ref{Index: 0, Gen: 2})
	wantDrop(t, p, api.Ref{Index: 2, Gen: 1}, "c")
	wantPut(t, p, "f", api.Ref{Index: 2, Gen: 2})
	wantPut(t, p, "g", api.Ref{Index: 3, Gen: 2})
	wantPut(t, p, "h", api.Ref{Index: 1, Gen: 2})
	wantPut(t, p, "i", api.Ref{Index: 4, Gen: 1}) // none is free: the one behind all
	wantPut(t, p, "j", api.Ref{Index: 5, Gen: 1})
	wantFull(t, p, "k")
	wantDrop(t, p, api.Ref{Index: 4, Gen: 1}, "i")
	for gen := 2; gen < 20; gen++ { // one cell, again and again: one Gen more each time
		wantPut(t, p, "l", api.Ref{Index: 4, Gen: gen})
		wantDrop(t, p, api.Ref{Index: 4, Gen: gen}, "l")
	}
	for i, v := range []string{"e", "h", "f", "g"} {
		wantGet(t, p, api.Ref{Index: i, Gen: 2}, v)
	}
}

// TestCellsBehindAllThatWereEverUsed: cells that were used stand in the way of a new one, though they hold nothing.
func TestCellsBehindAllThatWereEverUsed(t *testing.T) {
	p := New[int](4)
	for i := range 3 {
		wantPut(t, p, i, api.Ref{Index: i, Gen: 1})
	}
	for i := range 3 {
		wantDrop(t, p, api.Ref{Index: i, Gen: 1}, i)
	}
	if p.Len() != 0 {
		t.Errorf("P3.1: Len %d; want 0", p.Len())
	}
	for i := 2; i >= 0; i-- {
		wantPut(t, p, i, api.Ref{Index: i, Gen: 2})
	}
	wantPut(t, p, 3, api.Ref{Index: 3, Gen: 1})
	wantFull(t, p, 4)
}

func TestLen(t *testing.T) {
	p := New[int](3)
	wantLen := func(want int) {
		t.Helper()
		if p.Len() != want || p.Cap() != 3 {
			t.Errorf("P3.1: Len %d, Cap %d; want %d, 3", p.Len(), p.Cap(), want)
		}
	}
	wantLen(0)
	a := put(t, p, 1)
	wantLen(1)
	b := put(t, p, 1) // alike to the first one, and another value
	wantLen(2)
	p.Get(a)
	p.Set(a, 5)
	wantLen(2)
	put(t, p, 2)
	wantLen(3)
	wantFull(t, p, 3)
	wantLen(3)
	p.Drop(b)
	wantLen(2)
	p.Drop(b)
	wantLen(2)
	put(t, p, 4)
	wantLen(3)
}

func TestSet(t *testing.T) {
	p := New[string](3)
	a, b := put(t, p, "a"), put(t, p, "b")
	for _, v := range []string{"A", "", "A", "AA"} {
		if !p.Set(a, v) {
			t.Errorf("P3.2: Set(%v, %q): false", a, v)
		}
		wantGet(t, p, a, v)
		wantGet(t, p, b, "b")
	}
	wantDead(t, p, api.Ref{Index: a.Index, Gen: a.Gen + 1}, "x") // the Gen stays
	wantDrop(t, p, a, "AA")
	if p.Set(a, "again") {
		t.Errorf("P3.2: Set(%v) of a handle that was dropped: true", a)
	}
	wantDead(t, p, a, "again")
	wantPut(t, p, "c", api.Ref{Index: 0, Gen: 2})
	if p.Set(a, "again") {
		t.Errorf("P3.2: Set(%v) of a handle whose cell holds another one: true", a)
	}
	wantGet(t, p, api.Ref{Index: 0, Gen: 2}, "c")
}

func TestZeroValuesAreValues(t *testing.T) {
	p := New[int](2)
	a := put(t, p, 0)
	wantGet(t, p, a, 0)
	if !p.Set(a, 7) || !p.Set(a, 0) {
		t.Errorf("P3.2: Set(%v): false", a)
	}
	wantDrop(t, p, a, 0)
	wantDead(t, p, a, 1)
	wantPut(t, p, 0, api.Ref{Gen: 2})
}

func TestHandlesThatDontLive(t *testing.T) {
	p := New[string](5)
	live := []api.Ref{put(t, p, "a"), put(t, p, "b"), put(t, p, "c")}
	wantDrop(t, p, live[1], "b")
	live[1] = put(t, p, "B")
	gone := put(t, p, "d")
	wantDrop(t, p, gone, "d")
	for _, r := range live {
		for _, wrong := range near(r, live...) {
			wantDead(t, p, wrong, "x")
		}
	}
	for _, wrong := range append(near(gone, live...), gone, api.Ref{}, api.Ref{Index: 4, Gen: 1}, api.Ref{Index: 3, Gen: 2}, api.Ref{Index: 1, Gen: 1}) {
		wantDead(t, p, wrong, "x")
	}
	for i, v := range []string{"a", "B", "c"} {
		wantGet(t, p, live[i], v)
	}
	wantPut(t, p, "e", api.Ref{Index: 3, Gen: 2})
	wantPut(t, p, "f", api.Ref{Index: 4, Gen: 1})
}

func TestVisits(t *testing.T) {
	p := New[string](2)
	want := 0
	wantVisits := func(call string, more int) {
		t.Helper()
		if want += more; p.Visits() != want {
			t.Errorf("P3.3: after %s: %d; want %d", call, p.Visits(), want)
		}
	}
	wantVisits("New", 0)
	a := put(t, p, "a")
	b := put(t, p, "b")
	p.Put("c")
	wantVisits("Put", 0)
	p.Len()
	p.Cap()
	p.Visits()
	wantVisits("Len, Cap and Visits", 0)
	p.Get(a)
	p.Get(b)
	p.Get(a)
	wantVisits("Get", 3)
	p.Set(b, "B")
	p.Set(b, "B")
	wantVisits("Set", 2)
	p.Drop(a)
	wantVisits("Drop", 1)
	for _, r := range []api.Ref{a, {}, {Index: -1, Gen: 1}, {Index: 2, Gen: 1}, {Index: 0, Gen: 2}, {Index: 1, Gen: 2}} {
		p.Get(r)
		p.Set(r, "x")
		p.Drop(r)
	}
	wantVisits("handles that don't live", 0)
	p.Drop(b)
	wantVisits("Drop of the last one", 1)
	put(t, p, "d")
	wantVisits("Put into a cell that was freed", 0)
	if other := New[string](2); other.Visits() != 0 {
		t.Errorf("P3.3: another pool: %d; want 0", other.Visits())
	}
}

// worn is a pool whose only cell holds v as its value of that Gen. (To come there by Put and Drop alone takes half a minute.)
func worn[T any](t *testing.T, capacity, gen int, v T) *Pool[T] {
	t.Helper()
	p := New[T](capacity)
	p.Drop(put(t, p, v))
	p.cells[0].gen = gen - 1
	wantPut(t, p, v, api.Ref{Gen: gen})
	return p
}

func TestTheLastGen(t *testing.T) {
	p := worn(t, 3, api.MaxGen-1, "a")
	wantPut(t, p, "b", api.Ref{Index: 1, Gen: 1})
	wantDrop(t, p, api.Ref{Gen: api.MaxGen - 1}, "a")
	last := api.Ref{Gen: 4294967295}
	wantPut(t, p, "c", last)
	wantDead(t, p, api.Ref{Gen: api.MaxGen - 1}, "x")
	wantGet(t, p, last, "c")
	if !p.Set(last, "C") {
		t.Errorf("P3.2: Set(%v): false", last)
	}
	wantDrop(t, p, api.Ref{Index: 1, Gen: 1}, "b")
	wantDrop(t, p, last, "C") // freed last, but not used again
	if p.Len() != 0 || p.Cap() != 3 {
		t.Errorf("P3.1: Len %d, Cap %d; want 0, 3", p.Len(), p.Cap())
	}
	for _, r := range append(near(last), last, api.Ref{Gen: api.MaxGen + 1}, api.Ref{Gen: 1}, api.Ref{}) {
		wantDead(t, p, r, "x")
	}
	wantPut(t, p, "d", api.Ref{Index: 1, Gen: 2})
	wantPut(t, p, "e", api.Ref{Index: 2, Gen: 1})
	wantPut(t, p, "f", api.Ref{Index: 3, Gen: 1}) // three values, as Cap tells, in the cells that are left
	wantFull(t, p, "g")
	wantDead(t, p, last, "x")
}

func TestTheOnlyCellIsWorn(t *testing.T) {
	p := worn(t, 1, api.MaxGen, 5)
	wantFull(t, p, 6)
	wantDrop(t, p, api.Ref{Gen: api.MaxGen}, 5)
	for gen := 1; gen < 9; gen++ {
		wantPut(t, p, 6, api.Ref{Index: 1, Gen: gen})
		wantFull(t, p, 7)
		wantDrop(t, p, api.Ref{Index: 1, Gen: gen}, 6)
		wantDead(t, p, api.Ref{Gen: api.MaxGen}, 8)
	}
}

func TestValuesAreHandedInAndOutAsTheyAre(t *testing.T) {
	room := []int{1, 2, 3, 4, 5}
	list := room[:3]
	same := func(call string, got []int) {
		t.Helper()
		if len(got) != 3 || cap(got) != 5 || &got[0] != &room[0] {
			t.Errorf("P3.4: %s: another list, %v of %d", call, got, cap(got))
		}
	}
	p := New[[]int](2)
	a := put(t, p, list)
	got, _ := p.Get(a)
	same("Get", got)
	room[1] = 7
	if got, _ = p.Get(a); got[1] != 7 {
		t.Errorf("P3.4: Get: %v; want what the list became", got)
	}
	p.Set(a, nil)
	if got, ok := p.Get(a); !ok || got != nil {
		t.Errorf("P3.4: Get: %v, %v; want nil", got, ok)
	}
	p.Set(a, []int{})
	if got, ok := p.Get(a); !ok || got == nil || len(got) != 0 {
		t.Errorf("P3.4: Get: %v, %v; want an empty list", got, ok)
	}
	p.Set(a, list)
	got, _ = p.Get(a)
	same("Set and Get", got)
	got, _ = p.Drop(a)
	same("Drop", got)
	if want := []int{1, 7, 3, 4, 5}; !slices.Equal(room, want) {
		t.Errorf("P3.4: the list became %v; want %v", room, want)
	}
}

func TestStructsArraysAndPointers(t *testing.T) {
	type pair struct {
		numbers [2]int
		next    *int
	}
	n := 5
	p := New[pair](1)
	a := put(t, p, pair{[2]int{1, 2}, &n})
	got, _ := p.Get(a)
	if got.next != &n {
		t.Errorf("P3.4: Get: another pointer")
	}
	got.numbers[0], got.next = 9, nil // a copy of its own, which isn't what the cell holds
	wantGet(t, p, a, pair{[2]int{1, 2}, &n})
	q := New[any](3)
	f := put[any](t, q, &n)
	wantGet[any](t, q, f, &n)
	wantDrop[any](t, q, f, &n)
	wantDead[any](t, q, f, "x")
	e := put[any](t, q, nil)
	if v, ok := q.Get(e); !ok || v != nil {
		t.Errorf("P3.4: Get: %v, %v; want nil, true", v, ok)
	}
	if v, _ := q.Put(math.NaN()); v != (api.Ref{Index: 1, Gen: 1}) {
		t.Errorf("P3.2: Put: %v", v)
	}
	if v, ok := q.Get(api.Ref{Index: 1, Gen: 1}); !ok || v == v {
		t.Errorf("P3.4: Get: %v, %v; want what was put", v, ok)
	}
	calls := New[func() int](1)
	c := put(t, calls, func() int { return n })
	if call, ok := calls.Drop(c); !ok || call() != 5 {
		t.Errorf("P3.4: Drop: another function")
	}
	if call, ok := calls.Get(c); ok || call != nil {
		t.Errorf("P3.2: Get of a handle that was dropped: a function")
	}
}

// TestWhatIsDroppedIsLetGo: a cell that is free leads to nothing.
func TestWhatIsDroppedIsLetGo(t *testing.T) {
	p := New[*int](2)
	a, b := put(t, p, new(int)), put(t, p, new(int))
	p.Drop(a)
	if p.cells[a.Index].value != nil || p.cells[b.Index].value == nil {
		t.Errorf("P3.2: Drop(%v): the cell keeps what it held, or another one doesn't", a)
	}
}

// plain is a pool as the chapter tells it, without a thought for how long a call takes.
type plain struct {
	capacity, visits int
	used             int         // cells
	freed            []int       // in the order in which they were freed
	gens             map[int]int // of cells
	living           map[api.Ref]int
}

func (p *plain) put(v int) (api.Ref, bool) {
	if len(p.living) >= p.capacity {
		return api.Ref{}, false
	}
	index := p.used
	if n := len(p.freed); n > 0 {
		index, p.freed = p.freed[n-1], p.freed[:n-1]
	} else {
		p.used++
	}
	p.gens[index]++
	r := api.Ref{Index: index, Gen: p.gens[index]}
	p.living[r] = v
	return r, true
}

func (p *plain) get(r api.Ref) (int, bool) {
	v, ok := p.living[r]
	if ok {
		p.visits++
	}
	return v, ok
}

func (p *plain) set(r api.Ref, v int) bool {
	_, ok := p.get(r)
	if ok {
		p.living[r] = v
	}
	return ok
}

func (p *plain) drop(r api.Ref) (int, bool) {
	v, ok := p.get(r)
	if ok {
		delete(p.living, r)
		p.freed = append(p.freed, r.Index)
	}
	return v, ok
}

// dice are numbers in no order, the same ones at each run.
type dice uint64

func (d *dice) below(n int) int {
	*d ^= *d << 13
	*d ^= *d >> 7
	*d ^= *d << 17
	return int(uint64(*d) % uint64(n))
}

// step does one call on both pools, and tells whether they answer alike.
func step(d *dice, p *Pool[int], q *plain, handles *[]api.Ref) bool {
	v := d.below(1000)
	r := api.Ref{Index: d.below(q.capacity+2) - 1, Gen: d.below(4)}
	if n := len(*handles); n > 0 && d.below(4) > 0 {
		// Most often one of the newest, as they live.
		r = (*handles)[n-1-d.below(min(n, 3*q.capacity+1))]
	}
	var got, want, ok, is any
	switch d.below(5) {
	case 0, 1:
		a, fits := p.Put(v)
		b, may := q.put(v)
		if may {
			*handles = append(*handles, b)
		}
		got, want, ok, is = a, b, fits, may
	case 2:
		got, ok = p.Get(r)
		want, is = q.get(r)
	case 3:
		ok, is = p.Set(r, v), q.set(r, v)
	case 4:
		got, ok = p.Drop(r)
		want, is = q.drop(r)
	}
	return got == want && ok == is && p.Len() == len(q.living) && p.Cap() == q.capacity && p.Visits() == q.visits
}

func TestAgainstAPlainPool(t *testing.T) {
	for seed := 1; seed <= 40; seed++ {
		d := dice(seed * 0x9E3779B9)
		capacity := []int{0, 1, 2, 3, 8, 50}[seed%6]
		p, q := New[int](capacity), &plain{capacity: capacity, gens: map[int]int{}, living: map[api.Ref]int{}}
		var handles []api.Ref
		for i := range 3000 {
			if !step(&d, p, q, &handles) {
				t.Fatalf("P3.2, P3.3: seed %d: call %d is answered otherwise than by a plain pool", seed, i)
			}
		}
		cells := map[int]bool{}
		for _, r := range handles {
			v, ok := p.Get(r)
			want, is := q.get(r)
			if v != want || ok != is {
				t.Fatalf("P3.4: seed %d: Get(%v): %v, %v; want %v, %v", seed, r, v, ok, want, is)
			}
			if ok && cells[r.Index] {
				t.Fatalf("P3.4: seed %d: two handles that live name cell %d", seed, r.Index)
			}
			cells[r.Index] = cells[r.Index] || ok
		}
	}
}
