package box

import (
	"math"
	"runtime"
	"slices"
	"testing"
	"weak"

	"whilom/api"
)

// filled is an open box of a size, with values in it.
func filled[T any](t *testing.T, size int, values ...T) *Box[T] {
	t.Helper()
	b := New[T](size)
	for _, v := range values {
		if !b.Offer(v) {
			t.Fatalf("P5.2: Offer(%v) to a box of %d with %d values: false", v, size, b.Len())
		}
	}
	return b
}

// wantState holds Len, Cap and Closed, each asked twice, to what a box should be.
func wantState[T any](t *testing.T, b *Box[T], length, size int, closed bool) {
	t.Helper()
	for range 2 {
		if b.Len() != length || b.Cap() != size || b.Closed() != closed {
			t.Errorf("P5.1: Len %d, Cap %d, Closed %v; want %d, %d, %v", b.Len(), b.Cap(), b.Closed(), length, size, closed)
		}
	}
}

// wantTake takes the first value of a box.
func wantTake[T comparable](t *testing.T, b *Box[T], want T) {
	t.Helper()
	length := b.Len()
	if got, found := b.Take(); !found || got != want {
		t.Errorf("P5.2: Take: %v, %v; want %v", got, found, want)
	}
	if b.Len() != length-1 {
		t.Errorf("P5.2: Len %d behind Take; want %d", b.Len(), length-1)
	}
}

// wantNone holds Take to it that a box has nothing.
func wantNone[T comparable](t *testing.T, b *Box[T]) {
	t.Helper()
	var zero T
	for range 2 {
		if got, found := b.Take(); found || got != zero || b.Len() != 0 {
			t.Errorf("P5.2: Take of an empty box: %v, %v, Len %d; want none", got, found, b.Len())
		}
	}
}

// wantAll takes all values of a box.
func wantAll[T comparable](t *testing.T, b *Box[T], want ...T) {
	t.Helper()
	if b.Len() != len(want) {
		t.Errorf("P5.1: Len %d; want %d", b.Len(), len(want))
	}
	for _, v := range want {
		wantTake(t, b, v)
	}
	wantNone(t, b)
}

// wantRefused offers a value to a box that doesn't take it.
func wantRefused[T any](t *testing.T, b *Box[T], v T) {
	t.Helper()
	length := b.Len()
	for range 2 {
		if b.Offer(v) || b.Len() != length {
			t.Errorf("P5.2: Offer(%v): not refused, Len %d; want %d", v, b.Len(), length)
		}
	}
}

// wantPick picks a value out of boxes.
func wantPick[T comparable](t *testing.T, want T, at int, l ...*Box[T]) {
	t.Helper()
	if got, place, found := Pick(l...); !found || got != want || place != at {
		t.Errorf("P5.3: Pick: %v, %d, %v; want %v, %d", got, place, found, want, at)
	}
}

// wantNoPick holds Pick to it that no box has anything.
func wantNoPick[T comparable](t *testing.T, l ...*Box[T]) {
	t.Helper()
	var zero T
	for range 2 {
		if got, place, found := Pick(l...); found || got != zero || place != -1 {
			t.Errorf("P5.3: Pick: %v, %d, %v; want none, -1", got, place, found)
		}
	}
}

// wantPour pours one box into another one.
func wantPour[T any](t *testing.T, from, to *Box[T], want int) {
	t.Helper()
	if got := Pour(from, to); got != want {
		t.Errorf("P5.3: Pour: %d; want %d", got, want)
	}
}

func TestNewByHand(t *testing.T) {
	for _, r := range []struct{ size, want int }{
		{math.MinInt, 1}, {-1 << 32, 1}, {-1000, 1}, {-1, 1}, {0, 1}, {1, 1}, {2, 2}, {3, 3}, {7, 7}, {500, 500},
		{999, 999}, {1000, 1000}, {1001, 1000}, {2000, 1000}, {1 << 32, 1000}, {1<<32 + 1, 1000}, {math.MaxInt, 1000},
	} {
		b := New[int](r.size)
		wantState(t, b, 0, r.want, false)
		wantNone(t, b)
		for i := range r.want {
			if !b.Offer(i + 7) {
				t.Fatalf("P5.1: New(%d): Offer with %d values: false", r.size, i)
			}
			if b.Len() != i+1 {
				t.Fatalf("P5.1: New(%d): Len %d; want %d", r.size, b.Len(), i+1)
			}
		}
		wantRefused(t, b, 5)
		wantState(t, b, r.want, r.want, false)
		for i := range r.want {
			wantTake(t, b, i+7)
		}
		wantNone(t, b)
		wantState(t, b, 0, r.want, false)
	}
}

func TestTheSizeIsTheOneOfApi(t *testing.T) {
	if got := New[string](math.MaxInt).Cap(); got != api.MaxBox {
		t.Errorf("P5.1: Cap %d; want %d", got, api.MaxBox)
	}
}

func TestTheExample(t *testing.T) {
	b := New[int](2)
	if one, two, three := b.Offer(1), b.Offer(2), b.Offer(3); !one || !two || three {
		t.Errorf("P5.2: Offer 1, 2, 3: %v, %v, %v; want true, true, false", one, two, three)
	}
	wantTake(t, b, 1)
	wantTake(t, b, 2) // the 3 never came in
	wantNone(t, b)
}

func TestFirstInFirstOut(t *testing.T) {
	b := filled(t, 3, "a", "b", "c")
	wantRefused(t, b, "d")
	wantTake(t, b, "a")
	if !b.Offer("e") { // the place that became free
		t.Error("P5.2: Offer to a box that has room again: false")
	}
	wantRefused(t, b, "f")
	wantTake(t, b, "b")
	wantTake(t, b, "c")
	if !b.Offer("g") || !b.Offer("h") {
		t.Error("P5.2: Offer to a box that has room again: false")
	}
	wantAll(t, b, "e", "g", "h")
	if !b.Offer("i") { // one that became empty is as a new one
		t.Error("P5.2: Offer to a box that became empty: false")
	}
	wantAll(t, b, "i")
}

func TestASizeOfOne(t *testing.T) {
	b := New[int](1)
	for i := range 5 {
		if !b.Offer(i) {
			t.Fatalf("P5.2: Offer(%d): false", i)
		}
		wantRefused(t, b, -1)
		wantAll(t, b, i)
	}
}

func TestClose(t *testing.T) {
	for values := range 4 {
		b := filled(t, 3, []string{"a", "b", "c"}[:values]...)
		wantState(t, b, values, 3, false)
		if !b.Close() {
			t.Error("P5.1: Close of an open box: false")
		}
		wantState(t, b, values, 3, true)
		for range 2 {
			if b.Close() {
				t.Error("P5.1: Close of a closed box: true")
			}
		}
		wantRefused(t, b, "d") // with room, and without
		wantState(t, b, values, 3, true)
		wantAll(t, b, []string{"a", "b", "c"}[:values]...)
		wantRefused(t, b, "e") // and when it became empty
		wantState(t, b, 0, 3, true)
		if b.Close() {
			t.Error("P5.1: Close of a closed box that became empty: true")
		}
	}
}

func TestTwoBoxesShareNothing(t *testing.T) {
	a, b := New[int](2), New[int](2)
	a.Offer(1)
	wantNone(t, b)
	b.Offer(2)
	a.Close()
	wantState(t, b, 1, 2, false)
	wantAll(t, a, 1)
	wantAll(t, b, 2)
}

func TestPick(t *testing.T) {
	a, b, c := filled(t, 3, "a", "b"), New[string](1), filled(t, 2, "c", "d")
	wantPick(t, "c", 1, b, c, a) // one without a value is gone by
	wantState(t, a, 2, 3, false)
	wantState(t, b, 0, 1, false)
	wantState(t, c, 1, 2, false)
	wantPick(t, "a", 0, a, b, c) // the first one of the list, though others have more
	wantPick(t, "d", 2, nil, b, c, nil, a)
	wantPick(t, "b", 4, nil, b, c, nil, a)
	wantNoPick(t, nil, b, c, nil, a)
	b.Offer("e")
	c.Offer("f")
	wantPick(t, "f", 0, c, b)
	wantPick(t, "e", 1, c, b)
	wantNoPick(t, c, b)
}

func TestPickOutOfNothing(t *testing.T) {
	wantNoPick[int](t)
	wantNoPick(t, []*Box[int]{}...)
	wantNoPick[int](t, nil)
	wantNoPick[string](t, nil, nil, nil)
	wantNoPick(t, New[int](1))
	wantNoPick(t, New[string](1000), nil)
}

func TestPickOutOfClosedBoxes(t *testing.T) {
	a, b := filled(t, 2, 1, 2), filled(t, 2, 3)
	a.Close()
	wantPick(t, 1, 0, a, b)
	wantPick(t, 2, 0, a, b)
	wantPick(t, 3, 1, a, b)
	b.Close()
	wantNoPick(t, a, b)
	wantState(t, a, 0, 2, true)
}

func TestPickOfOneBoxTwice(t *testing.T) {
	a := filled(t, 2, 1, 2)
	wantPick(t, 1, 0, a, a)
	wantPick(t, 2, 1, nil, a, a)
	wantNoPick(t, a, a)
}

// TestPickKeepsTheList: the list that is handed in stays as it is, its spare room included.
func TestPickKeepsTheList(t *testing.T) {
	a, b, c := New[int](1), filled(t, 2, 1), filled(t, 2, 2)
	list := []*Box[int]{nil, a, b, c}
	want := slices.Clone(list)
	wantPick(t, 1, 2, list[:3]...)
	wantNoPick(t, list[:3]...) // what lies behind the list isn't looked at
	if !slices.Equal(list, want) {
		t.Error("rule 5: Pick changed the list")
	}
	wantAll(t, c, 2)
}

func TestZeroValuesArePicked(t *testing.T) {
	a, b := filled(t, 1, 0), filled(t, 1, 5)
	wantPick(t, 0, 0, a, b)
	wantPick(t, 5, 1, a, b)
}

func TestPour(t *testing.T) {
	a, b := filled(t, 5, 1, 2, 3, 4, 5), filled(t, 4, 8)
	wantPour(t, a, b, 3) // as many as there is room for
	wantState(t, a, 2, 5, false)
	wantState(t, b, 4, 4, false)
	wantPour(t, a, b, 0) // no room
	wantState(t, a, 2, 5, false)
	wantTake(t, b, 8)
	wantTake(t, b, 1)
	wantTake(t, b, 2)
	wantPour(t, a, b, 2) // as many as there are
	wantState(t, a, 0, 5, false)
	wantPour(t, a, b, 0) // nothing to pour
	wantAll(t, b, 3, 4, 5)
	wantNone(t, a)
	wantPour(t, a, b, 0) // neither has one
}

func TestPourOneMoreAndOneLess(t *testing.T) {
	for values := range 5 {
		for room := 1; room < 5; room++ {
			a, b := filled(t, 4, []int{1, 2, 3, 4}[:values]...), New[int](room)
			n := min(values, room)
			wantPour(t, a, b, n)
			wantAll(t, b, []int{1, 2, 3, 4}[:n]...)
			wantAll(t, a, []int{1, 2, 3, 4}[n:values]...)
		}
	}
}

func TestPourOfNothing(t *testing.T) {
	a := filled(t, 3, "a", "b")
	wantPour(t, a, nil, 0)
	wantPour(t, nil, a, 0)
	wantPour[string](t, nil, nil, 0)
	wantPour(t, a, a, 0)
	wantState(t, a, 2, 3, false)
	a.Close()
	wantPour(t, a, a, 0)
	wantPour(t, a, nil, 0)
	wantPour(t, nil, a, 0)
	wantAll(t, a, "a", "b")
	wantPour(t, a, a, 0)
	full := filled(t, 1, "c")
	wantPour(t, full, full, 0)
	wantAll(t, full, "c")
}

func TestPourAndClosedBoxes(t *testing.T) {
	a, b := filled(t, 3, 1, 2, 3), filled(t, 2, 9)
	b.Close()
	wantPour(t, a, b, 0) // there is room, but none that is open
	wantState(t, a, 3, 3, false)
	wantAll(t, b, 9)
	wantPour(t, a, b, 0)
	c := New[int](2)
	a.Close()
	wantPour(t, a, b, 0) // both are closed
	wantPour(t, a, c, 2) // a closed one is poured from
	wantState(t, a, 1, 3, true)
	wantState(t, c, 2, 2, false)
	wantAll(t, c, 1, 2)
	wantAll(t, a, 3)
}

func TestEachValueOnce(t *testing.T) {
	a, b := New[int](api.MaxBox), New[int](7)
	next := 0
	for i := range 3 * api.MaxBox {
		if i%3 < 2 && !a.Offer(i) {
			t.Fatalf("P5.4: Offer(%d): false", i)
		}
		if i%5 == 0 {
			Pour(a, b)
			for v, found := b.Take(); found; v, found = b.Take() {
				if want := next/2*3 + next%2; v != want {
					t.Fatalf("P5.4: value %d: %d; want %d", next, v, want)
				}
				next++
			}
		}
	}
	for v, found := a.Take(); found; v, found = a.Take() {
		if want := next/2*3 + next%2; v != want {
			t.Fatalf("P5.4: value %d: %d; want %d", next, v, want)
		}
		next++
	}
	if next != 2*api.MaxBox {
		t.Errorf("P5.4: %d values came out; want %d", next, 2*api.MaxBox)
	}
}

func TestZeroAndEqualValuesAreEachOneForItself(t *testing.T) {
	wantAll(t, filled(t, 4, 0, 0, 1, 0), 0, 0, 1, 0)
	wantAll(t, filled(t, 3, "a", "a", ""), "a", "a", "")
}

func TestValuesAreHandedInAndOutAsTheyAre(t *testing.T) {
	room := []int{1, 2, 3, 4, 5}
	same := func(call string, got []int) {
		t.Helper()
		if len(got) != 3 || cap(got) != 5 || &got[0] != &room[0] {
			t.Errorf("P5.4: %s: another list, %v of %d", call, got, cap(got))
		}
	}
	a, b := filled(t, 3, room[:3], room[:3], nil), New[[]int](2)
	got, _ := a.Take()
	same("Take", got)
	Pour(a, b)
	got, _, _ = Pick(a, b)
	same("Pick", got)
	if got, found := b.Take(); !found || got != nil {
		t.Errorf("P5.4: Take: %v, %v; want nil", got, found)
	}
	b.Offer([]int{})
	if got, found := b.Take(); !found || got == nil || len(got) != 0 {
		t.Errorf("P5.4: Take: %v, %v; want an empty list", got, found)
	}
	if want := []int{1, 2, 3, 4, 5}; !slices.Equal(room, want) {
		t.Errorf("P5.4: the list became %v; want %v", room, want)
	}
}

// TestAValueIsWhatItWas: what becomes of the caller's variable, or of the answer, isn't the box's.
func TestAValueIsWhatItWas(t *testing.T) {
	type pair struct {
		numbers [2]int
		next    *int
	}
	n := 5
	v := pair{[2]int{1, 2}, &n}
	b := filled(t, 2, v, v)
	v.numbers[0], v.next = 9, nil
	got, _ := b.Take()
	got.numbers[0], got.next = 7, nil
	wantAll(t, b, pair{[2]int{1, 2}, &n})
}

func TestValuesOfAnyType(t *testing.T) {
	n := 5
	wantAll[any](t, filled[any](t, 4, nil, "a", &n, api.Ref{Index: 1}), nil, "a", &n, api.Ref{Index: 1})
	things := filled[any](t, 2, math.NaN(), []int{1})
	if v, found := things.Take(); !found || v == v {
		t.Errorf("P5.4: Take: %v, %v; want what was offered", v, found)
	}
	if v, at, found := Pick(things); !found || at != 0 || len(v.([]int)) != 1 { // one that can't be held against another
		t.Errorf("P5.4: Pick: %v, %d, %v; want what was offered", v, at, found)
	}
	wantNoPick(t, things)

	calls := filled(t, 1, func() int { return n })
	if call, found := calls.Take(); !found || call() != 5 {
		t.Error("P5.4: Take: another function")
	}
	if call, at, found := Pick(calls); found || call != nil || at != -1 {
		t.Error("P5.3: Pick out of an empty box: a function")
	}

	boxes := filled(t, 1, filled(t, 1, 3))
	inner, _ := boxes.Take()
	wantAll(t, inner, 3)

	empty := filled(t, 2, struct{}{}, struct{}{})
	wantRefused(t, empty, struct{}{})
	wantAll(t, empty, struct{}{}, struct{}{})
}

// TestGreatValues: those that are greater than what a channel of the language takes.
func TestGreatValues(t *testing.T) {
	type great [1 << 17]byte
	a, b := filled(t, math.MaxInt, great{1, 2}, great{3}), New[great](1)
	wantPour(t, a, b, 1)
	if v, at, found := Pick(b, a); !found || at != 0 || v != (great{1, 2}) {
		t.Errorf("P5.3: Pick: %v, %d, %v", v[:3], at, found)
	}
	if v, found := a.Take(); !found || v != (great{3}) {
		t.Errorf("P5.2: Take: %v, %v", v[:3], found)
	}
	if v, found := a.Take(); found || v != (great{}) {
		t.Errorf("P5.2: Take of an empty box: %v, %v", v[:3], found)
	}
}

// big is a value that has its memory to itself.
type big [64]int

// watched offers new values to a box, and tells of each whether it still has memory.
func watched(b *Box[*big], n int) []weak.Pointer[big] {
	var list []weak.Pointer[big]
	for range n {
		v := new(big)
		list = append(list, weak.Make(v))
		b.Offer(v)
	}
	return list
}

// kept is how many values still have memory.
func kept(list []weak.Pointer[big]) int {
	runtime.GC()
	n := 0
	for _, w := range list {
		if w.Value() != nil {
			n++
		}
	}
	return n
}

// TestWhatIsLetGoIsntKept: a box leads to its values alone, not to those that it had or refused.
func TestWhatIsLetGoIsntKept(t *testing.T) {
	a, b := New[*big](4), New[*big](1)
	list := watched(a, 6)
	if got := kept(list); got != 4 || kept(list[4:]) != 0 {
		t.Errorf("P5.2: %d of 6 values are kept by a box of 4, %d of those that it refused", got, kept(list[4:]))
	}
	a.Take()
	Pick(b, a)
	if got := kept(list); got != 2 {
		t.Errorf("P5.2: %d values are kept behind Take and Pick; want 2", got)
	}
	Pour(a, b)
	b.Take()
	if got := kept(list); got != 1 {
		t.Errorf("P5.3: %d values are kept behind Pour; want 1", got)
	}
	a.Close()
	if got := kept(watched(a, 1)); got != 0 {
		t.Errorf("P5.2: %d values are kept by a closed box; want 0", got)
	}
	runtime.KeepAlive(a)
	runtime.KeepAlive(b)
}

// dice are numbers in no order, the same ones at each run.
type dice uint64

func (d *dice) below(n int) int {
	*d ^= *d << 13
	*d ^= *d >> 7
	*d ^= *d << 17
	return int(uint64(*d) % uint64(n))
}

// plain is a box as the chapter tells it, without a thought for how long a call takes.
type plain struct {
	size   int
	closed bool
	values []int
}

func (q *plain) offer(v int) bool {
	if q.closed || len(q.values) == q.size {
		return false
	}
	q.values = append(q.values, v)
	return true
}

func (q *plain) take() (int, bool) {
	if len(q.values) == 0 {
		return 0, false
	}
	v := q.values[0]
	q.values = slices.Clone(q.values[1:])
	return v, true
}

// pickPlain is Pick as the chapter tells it; a place below 0 is that of a nil box.
func pickPlain(q []*plain, places []int) (int, int, bool) {
	for i, at := range places {
		if at < 0 {
			continue
		}
		if v, found := q[at].take(); found {
			return v, i, true
		}
	}
	return 0, -1, false
}

// pourPlain is Pour as the chapter tells it, value by value.
func pourPlain(from, to *plain) int {
	n := 0
	for from != nil && to != nil && from != to && len(from.values) > 0 && !to.closed && len(to.values) < to.size {
		v, _ := from.take()
		to.offer(v)
		n++
	}
	return n
}

// places are some boxes of n, none at times (-1).
func places(d *dice, n int) []int {
	list := make([]int, d.below(4))
	for i := range list {
		list[i] = d.below(n+1) - 1
	}
	return list
}

// boxAt is the box at a place, nil at -1.
func boxAt[B any](l []*B, at int) *B {
	if at < 0 {
		return nil
	}
	return l[at]
}

// step does one call on the boxes and on the plain ones, and tells whether they answer alike.
func step(d *dice, b []*Box[int], q []*plain) bool {
	at := d.below(len(b))
	switch n := d.below(400); {
	case n < 200:
		v := d.below(1000)
		return b[at].Offer(v) == q[at].offer(v)
	case n < 260:
		v, found := b[at].Take()
		want, is := q[at].take()
		return v == want && found == is
	case n < 320:
		var l []*Box[int]
		list := places(d, len(b))
		for _, place := range list {
			l = append(l, boxAt(b, place))
		}
		v, place, found := Pick(l...)
		want, where, is := pickPlain(q, list)
		return v == want && place == where && found == is
	case n < 399:
		from, to := d.below(len(b)+1)-1, d.below(len(b)+1)-1
		return Pour(boxAt(b, from), boxAt(b, to)) == pourPlain(boxAt(q, from), boxAt(q, to))
	default:
		open := !q[at].closed
		q[at].closed = true
		return b[at].Close() == open
	}
}

func TestAgainstPlainBoxes(t *testing.T) {
	for seed := 1; seed <= 200; seed++ {
		d := dice(seed * 0x9E3779B9)
		var b []*Box[int]
		var q []*plain
		for range 4 {
			size := 1 + d.below(9)
			b, q = append(b, New[int](size)), append(q, &plain{size: size})
		}
		for i := range 500 {
			if !step(&d, b, q) {
				t.Fatalf("P5.1 to P5.4: seed %d: call %d is answered otherwise than by plain boxes", seed, i)
			}
			for k := range b {
				if b[k].Len() != len(q[k].values) || b[k].Closed() != q[k].closed || b[k].Cap() != q[k].size {
					t.Fatalf("P5.1: seed %d: behind call %d: Len %d, Cap %d, Closed %v; want %v", seed, i, b[k].Len(), b[k].Cap(), b[k].Closed(), *q[k])
				}
			}
		}
		for k := range b {
			wantAll(t, b[k], q[k].values...)
		}
	}
}
