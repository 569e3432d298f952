package fuse

import (
	"cmp"
	"math"
	"slices"
	"testing"

	"whilom/api"
	"whilom/partial"
	"whilom/wave"
)

// x is an item of a key.
func x(key int) api.Item { return api.Item{Key: key, ID: -key} }

// ins and del are operations.
func ins(time int, y api.Item) api.Op { return api.Op{Time: time, Insert: true, Item: y} }
func del(time int) api.Op             { return api.Op{Time: time} }

// items are those of some keys.
func items(keys ...int) []api.Item {
	var l []api.Item
	for _, k := range keys {
		l = append(l, x(k))
	}
	return l
}

// off stands for a deletion where keys stand for operations.
const off = math.MinInt

// ops are operations at the times 0, 1 .. : insertions of keys, and deletions.
func ops(keys ...int) []api.Op {
	var l []api.Op
	for time, k := range keys {
		if k == off {
			l = append(l, del(time))
		} else {
			l = append(l, ins(time, x(k)))
		}
	}
	return l
}

// dice is a row of numbers that looks random and is the same each time.
type dice uint64

func (d *dice) roll(n int) int {
	*d ^= *d << 13
	*d ^= *d >> 7
	*d ^= *d << 17
	return int(uint64(*d) % uint64(n))
}

// order orders items.
func order(y, z api.Item) int {
	return cmp.Or(cmp.Compare(y.Key, z.Key), cmp.Compare(y.ID, z.ID))
}

// run is what lists of operations leave that are gone through one behind the other: what views are held against.
func run(lists ...[]api.Op) []api.Item {
	var left []api.Item
	for _, l := range lists {
		for _, o := range l {
			if o.Insert {
				i, _ := slices.BinarySearchFunc(left, o.Item, order)
				left = slices.Insert(left, i, o.Item)
			} else if len(left) > 0 {
				left = left[1:]
			}
		}
	}
	return left
}

// made is a queue of these operations, added in an order that isn't theirs.
func made(t *testing.T, l []api.Op) *partial.Queue {
	t.Helper()
	q := partial.New(len(l))
	shuffled := slices.Clone(l)
	d := dice(len(l) + 1)
	for i := range shuffled {
		j := d.roll(i + 1)
		shuffled[i], shuffled[j] = shuffled[j], shuffled[i]
	}
	for _, o := range shuffled {
		edit(t, q, o)
	}
	return q
}

// edit adds an operation to a queue.
func edit(t *testing.T, q *partial.Queue, o api.Op) {
	t.Helper()
	var e api.Errno
	if o.Insert {
		_, e = q.Insert(o.Time, o.Item)
	} else {
		_, e = q.Delete(o.Time)
	}
	if e != api.OK {
		t.Fatalf("%v can't be added: %v", o, e)
	}
}

// queues are those of lists of operations.
func queues(t *testing.T, lists ...[]api.Op) []*partial.Queue {
	t.Helper()
	var l []*partial.Queue
	for _, o := range lists {
		l = append(l, made(t, o))
	}
	return l
}

// view is the view of queues, one behind the other.
func view(l ...*partial.Queue) Views {
	v := None()
	for _, q := range l {
		v = v.Then(q)
	}
	return v
}

// holds checks all that a view tells: that just these items are left, of those that were inserted.
func holds(t *testing.T, name string, v Views, want, inserted []api.Item) {
	t.Helper()
	if got := v.Items(); !slices.Equal(got, want) {
		t.Fatalf("P13.2: %s: Items %v; want %v", name, got, want)
	}
	if v.Len() != len(want) {
		t.Fatalf("P13.2: %s: Len %d; want %d", name, v.Len(), len(want))
	}
	for k, y := range want {
		if got, ok := v.At(k); !ok || got != y {
			t.Fatalf("P13.2: %s: At(%d): %v, %v; want %v of %v", name, k, got, ok, y, want)
		}
	}
	for _, k := range []int{math.MinInt, math.MinInt + 1, -2, -1, len(want), len(want) + 1, math.MaxInt - 1, math.MaxInt} {
		if got, ok := v.At(k); ok || got != (api.Item{}) {
			t.Fatalf("P13.2: %s: At(%d) of %d: %v, %v", name, k, len(want), got, ok)
		}
	}
	first := api.Item{}
	if len(want) > 0 {
		first = want[0]
	}
	if got, ok := v.Min(); got != first || ok != (len(want) > 0) {
		t.Fatalf("P13.2: %s: Min: %v, %v; want %v of %v", name, got, ok, first, want)
	}
	for _, y := range inserted {
		_, is := slices.BinarySearchFunc(want, y, order)
		if v.Has(y) != is {
			t.Fatalf("P13.2: %s: Has(%v): %v of %v", name, y, !is, want)
		}
		for _, z := range []api.Item{{Key: y.Key, ID: y.ID + 1}, {Key: y.Key, ID: y.ID - 1}, {Key: y.Key + 1, ID: y.ID}, {Key: y.Key - 1, ID: y.ID}} {
			if v.Has(z) && !slices.Contains(inserted, z) {
				t.Fatalf("P13.2: %s: Has(%v) of %v", name, z, want)
			}
		}
	}
}

// inserted are the items of all insertions.
func inserted(lists ...[]api.Op) []api.Item {
	var l []api.Item
	for _, o := range slices.Concat(lists...) {
		if o.Insert {
			l = append(l, o.Item)
		}
	}
	return l
}

// check holds the view of queues of these operations against the run of these.
func check(t *testing.T, name string, lists ...[]api.Op) Views {
	t.Helper()
	v := view(queues(t, lists...)...)
	holds(t, name, v, run(lists...), inserted(lists...))
	return v
}

func TestNoQueuesLeaveNothing(t *testing.T) {
	edges := []api.Item{{}, x(1), x(-1), {Key: math.MinInt, ID: math.MinInt}, {Key: math.MaxInt, ID: math.MaxInt}}
	for name, v := range map[string]Views{
		"None":                   None(),
		"no queue":               None().Then(nil),
		"a queue of no room":     None().Then(partial.New(0)),
		"one without operations": None().Then(partial.New(9)).Then(partial.New(-1)).Then(nil),
		"deletions":              None().Then(made(t, ops(off, off))).Then(made(t, ops(off))),
	} {
		holds(t, name, v, nil, nil)
		for _, y := range edges {
			if v.Has(y) {
				t.Errorf("P13.2: %s: Has(%v)", name, y)
			}
		}
	}
}

func TestThenNilIsTheViewItself(t *testing.T) {
	var none *partial.Queue
	a, b := ops(4, 5, off, 7), ops(off, 3, 9)
	l := queues(t, a, b)
	v := None().Then(nil).Then(l[0]).Then(none).Then(nil).Then(l[1]).Then(none)
	// The first one's deletion takes 4, the second one's takes 5.
	holds(t, "nil queues between", v, items(3, 7, 9), inserted(a, b))
	holds(t, "the same without", view(l...), items(3, 7, 9), inserted(a, b))
}

func TestTheChaptersExample(t *testing.T) {
	v := check(t, "4 and 5, then delete, 3, delete", ops(4, 5), ops(off, 3, off))
	if got := v.Items(); !slices.Equal(got, items(5)) {
		t.Errorf("P13.2: Items %v", got)
	}
}

func TestViewsByHand(t *testing.T) {
	for _, row := range []struct {
		name  string
		lists [][]api.Op
		want  []int
	}{
		{"one queue alone", [][]api.Op{ops(5, 3, off, 8)}, []int{5, 8}},
		{"a deletion takes what was left", [][]api.Op{ops(5, 3), ops(off)}, []int{5}},
		{"and not what comes behind it", [][]api.Op{ops(5, 3), ops(off, 1)}, []int{1, 5}},
		{"what was gone in its queue is spared for what is less", [][]api.Op{ops(2, 9), ops(4, off)}, []int{4, 9}},
		{"or isn't", [][]api.Op{ops(6, 9), ops(4, off)}, []int{6, 9}},
		{"both ways", [][]api.Op{ops(2, 6), ops(4, 5, 8, off, off, off)}, []int{6, 8}},
		{"deletions that find nothing take nothing", [][]api.Op{ops(off, off), ops(1)}, []int{1}},
		{"nor later ones", [][]api.Op{ops(7), ops(off, off, off), ops(1), ops(2)}, []int{1, 2}},
		{"more deletions than items", [][]api.Op{ops(7, 8), ops(6, off, off, off, off, 1), ops(2)}, []int{1, 2}},
		{"just as many", [][]api.Op{ops(7, 8), ops(6, off, off, off)}, nil},
		{"none of them", [][]api.Op{ops(7, 8), ops(6), nil, ops(9, 1)}, []int{1, 6, 7, 8, 9}},
		{"parts that lose again and again", [][]api.Op{ops(1, 2, 3, 4, 5, 6), ops(off, 0), ops(off, off), ops(off), ops(off, 9)}, []int{5, 6, 9}},
		{"what comes back", [][]api.Op{ops(1), ops(7, off), ops(2, off)}, []int{7}},
		{"the present is behind all of it", [][]api.Op{ops(5), ops(9, off, 0, off, 2, 1)}, []int{1, 2, 9}},
	} {
		v := check(t, row.name, row.lists...)
		if got := v.Items(); !slices.Equal(got, items(row.want...)) {
			t.Errorf("P13.2: %s: Items %v; want %v", row.name, got, items(row.want...))
		}
	}
}

func TestWhateverTimesTheyHave(t *testing.T) {
	for _, starts := range [][3]int{{0, 0, 0}, {0, 100, 200}, {200, 100, 0}, {7, 0, 3}, {math.MinInt, math.MaxInt - 9, math.MinInt}} {
		lists := [][]api.Op{ops(4, 5, off, 6, off), ops(off, 3, off, 9), ops(2, 8, off)}
		for i, start := range starts {
			for j := range lists[i] {
				lists[i][j].Time += start
			}
		}
		v := check(t, "other times", lists...)
		if got := v.Items(); !slices.Equal(got, items(8, 9)) {
			t.Errorf("P13.2: from the times %v on: Items %v", starts, got)
		}
	}
}

// timelines are all of n operations at the times 0, 1 .. that differ: deletions, and insertions of the keys 10, 20 .. in whichever order.
func timelines(n int) [][]api.Op {
	lists := [][]api.Op{nil}
	for i := range n {
		var longer [][]api.Op
		for _, l := range lists {
			longer = append(longer, append(slices.Clone(l), del(i)))
			// The new key is put between those that are there, which are numbered anew.
			for k := range len(inserted(l)) + 1 {
				m := slices.Clone(l)
				for j := range m {
					if m[j].Insert && m[j].Item.Key >= 10*(k+1) {
						m[j].Item = x(m[j].Item.Key + 10)
					}
				}
				longer = append(longer, append(m, ins(i, x(10*(k+1)))))
			}
		}
		lists = longer
	}
	return lists
}

// parted is a timeline in pieces: there is a cut behind an operation whose bit is set.
func parted(l []api.Op, cuts int) [][]api.Op {
	pieces := [][]api.Op{nil}
	for i, o := range l {
		last := len(pieces) - 1
		pieces[last] = append(pieces[last], o)
		if cuts>>i&1 == 1 {
			pieces = append(pieces, nil)
		}
	}
	return pieces
}

func TestAllPartingsOfAllShortTimelines(t *testing.T) {
	for n := range 7 {
		for _, l := range timelines(n) {
			// The last bit adds a queue without operations behind all.
			for cuts := range 1 << n {
				check(t, "parted", parted(l, cuts)...)
			}
		}
	}
}

func TestEdgesOfItems(t *testing.T) {
	var edges []api.Item
	for _, key := range []int{math.MinInt, math.MinInt + 1, -1, 0, 1, math.MaxInt - 1, math.MaxInt} {
		for _, id := range []int{math.MinInt, -1, 0, 1, math.MaxInt} {
			edges = append(edges, api.Item{Key: key, ID: id})
		}
	}
	d := dice(5)
	for range 300 {
		lists := make([][]api.Op, 1+d.roll(4))
		for time, y := range edges {
			i := d.roll(len(lists))
			lists[i] = append(lists[i], ins(2*time, y))
			if i = d.roll(len(lists)); d.roll(3) > 0 {
				lists[i] = append(lists[i], del(2*time+1))
			}
		}
		v := check(t, "edges", lists...)
		for _, y := range edges {
			if _, left := slices.BinarySearchFunc(run(lists...), y, order); v.Has(y) != left {
				t.Fatalf("P13.2: Has(%v): %v", y, !left)
			}
		}
	}
}

func TestItemsOfOneKey(t *testing.T) {
	y := func(id int) api.Item { return api.Item{Key: 4, ID: id} }
	a, b := []api.Op{ins(0, y(3)), ins(1, y(9)), ins(2, y(5))}, []api.Op{del(0), ins(1, y(4)), del(2), ins(3, y(1))}
	v := check(t, "one key", a, b)
	if got := v.Items(); !slices.Equal(got, []api.Item{y(1), y(5), y(9)}) {
		t.Errorf("P13.2: Items %v", got)
	}
}

func TestAViewStaysWhenMoreIsMadeOfIt(t *testing.T) {
	lists := [][]api.Op{ops(20, 10, 30), ops(off, 15, off, 40), ops(25, 5), ops(off, 50), ops(off, off, off), ops(60)}
	l := queues(t, lists...)
	all := inserted(lists...)
	d := dice(77)
	type grown struct {
		v    Views
		want [][]api.Op
	}
	for range 50 {
		views := []grown{{None(), nil}}
		for range 25 {
			from := views[d.roll(len(views))]
			i := d.roll(len(lists))
			// An item may come but once.
			if slices.ContainsFunc(from.want, func(o []api.Op) bool { return slices.Equal(o, lists[i]) }) {
				continue
			}
			views = append(views, grown{from.v.Then(l[i]), append(slices.Clone(from.want), lists[i])})
			for _, g := range views {
				holds(t, "a view of which others were made", g.v, run(g.want...), all)
			}
		}
	}
}

func TestAViewHoldsTillOneOfItsQueuesIsEdited(t *testing.T) {
	a, b, c := ops(5, 3, off, 8, 9), ops(off, 4, 7, off), ops(6, off, 1)
	l := queues(t, a, b)
	other := partial.New(9)
	v := view(l...)
	all := inserted(a, b, c)
	for i, o := range c {
		edit(t, other, o)
		holds(t, "a queue edited that isn't the view's", v, run(a, b), all)
		holds(t, "a new view of it", v.Then(other), run(a, b, c[:i+1]), all)
	}
	other.Revoke(1)
	holds(t, "a new view", v.Then(other), run(a, b, ops(6), ops(1)), all)
	l[0].Revoke(0)
	holds(t, "a view made anew after an edit", view(l...), run(ops(3, off, 8, 9), b), all)
	l[1].Revoke(0)
	holds(t, "a view made anew after two", view(l...), run(ops(3, off, 8, 9), ops(4, 7, off)), all)
}

// ask calls all that a view has, for what ends and doesn't panic, whatever it answers.
func ask(v Views, q *partial.Queue) {
	for k := -1; k <= v.Len()+1; k++ {
		v.At(k)
	}
	for key := range 12 {
		v.Has(x(key))
	}
	v.Min()
	v.Items()
	v.Then(q).Then(nil).Len()
}

func TestCallsOfAViewThatHoldsNoMoreEnd(t *testing.T) {
	lists := [][]api.Op{ops(1, 2, 3, 4, 5), ops(off, off, 6, 7, off, 8), ops(off, 9)}
	for i := range lists {
		for _, o := range lists[i] {
			l := queues(t, lists...)
			v := view(l...)
			for _, p := range lists[i] {
				l[i].Revoke(p.Time)
				ask(v, l[i])
			}
			for time := range len(lists[i]) {
				l[i].Insert(time, x(-time))
				ask(v, l[i])
			}
			l[i].Revoke(o.Time)
			ask(v, made(t, ops(off, off)))
		}
	}
}

func TestCallsOfAViewOfItemsThatAreAlikeEnd(t *testing.T) {
	for n := range 5 {
		for _, a := range timelines(n) {
			q := made(t, a)
			for _, b := range timelines(2) {
				r := made(t, b)
				v := view(q, r, q, q, r)
				ask(v, r)
				if len(v.Items()) != v.Len() || !slices.IsSortedFunc(v.Items(), order) {
					t.Fatalf("P13.2: %v and %v, again and again: Len %d, Items %v", a, b, v.Len(), v.Items())
				}
			}
		}
	}
}

// state is all that a queue tells of itself.
type state struct {
	ops           []api.Op
	marks         []wave.Mark
	present, gone []api.Item
	numbers       [3]int
}

// told is a queue's state.
func told(q *partial.Queue) state {
	s := state{ops: q.Ops(), marks: q.Marks().All(), numbers: [3]int{q.Len(), q.Deletes(), q.Excess()}}
	for _, slot := range q.Present().All() {
		s.present = append(s.present, slot.Item)
	}
	for _, slot := range q.Gone().All() {
		s.gone = append(s.gone, slot.Item)
	}
	return s
}

func TestTheQueuesStayAsTheyAre(t *testing.T) {
	lists := [][]api.Op{ops(4, 6, off, 8), ops(off, 5, 7, off, off), ops(off, 3, off, off)}
	l := queues(t, lists...)
	var before []state
	for _, q := range l {
		before = append(before, told(q))
	}
	v := None()
	for i, q := range l {
		v = v.Then(q)
		ask(v, l[len(l)-1-i])
		for j, q := range l {
			s, want := told(q), before[j]
			if !slices.Equal(s.ops, want.ops) || !slices.Equal(s.marks, want.marks) || !slices.Equal(s.present, want.present) || !slices.Equal(s.gone, want.gone) || s.numbers != want.numbers {
				t.Errorf("P13.3: the queue %d was %v and is %v", j, want, s)
			}
		}
	}
	for _, q := range l {
		// There is room for as many operations as it has, and no more.
		if _, e := q.Delete(90); e != api.ErrFull {
			t.Errorf("P13.3: Delete of a full queue: %v", e)
		}
		if _, e := q.Revoke(0); e != api.OK {
			t.Errorf("P13.3: Revoke: %v", e)
		}
		edit(t, q, del(90))
	}
}

func TestItemsAreNewMemory(t *testing.T) {
	a, b := ops(4, 6, 8, off, 7), ops(5, off, 9)
	l := queues(t, a, b)
	for _, v := range []Views{view(l[0]), view(l...)} {
		kept, spoilt := v.Items(), v.Items()
		want := slices.Clone(kept)
		for i := range spoilt {
			spoilt[i] = x(-99)
		}
		_ = append(spoilt, x(-98))
		holds(t, "after its Items were changed", v, want, inserted(a, b))
		if !slices.Equal(kept, want) {
			t.Errorf("P13.3: two answers of Items share memory: %v", kept)
		}
	}
	kept := view(l...).Items()
	l[0].Revoke(1)
	l[1].Revoke(2)
	if !slices.Equal(kept, items(6, 7, 8, 9)) {
		t.Errorf("P13.3: what Items answered has changed: %v", kept)
	}
}

// rolled are lists of operations that look random: of so many each, of which so many in a hundred are deletions, and keys out of so many.
func rolled(d *dice, lens []int, share, keys int) [][]api.Op {
	var lists [][]api.Op
	id := 0
	for _, n := range lens {
		var l []api.Op
		for time := range n {
			id++
			if d.roll(100) < share {
				l = append(l, del(time))
			} else {
				l = append(l, ins(time, api.Item{Key: d.roll(keys), ID: id}))
			}
		}
		lists = append(lists, l)
	}
	return lists
}

func TestViewsOfManySmallQueues(t *testing.T) {
	d := dice(20261120)
	for _, share := range []int{0, 10, 40, 50, 60, 90} {
		for _, keys := range []int{1, 3, 1000000} {
			var lens []int
			for range 40 {
				lens = append(lens, d.roll(12))
			}
			lists := rolled(&d, lens, share, keys)
			v := None()
			for i, q := range queues(t, lists...) {
				v = v.Then(q)
				holds(t, "many small queues", v, run(lists[:i+1]...), inserted(lists[:i+1]...))
			}
		}
	}
}

func TestViewsOfQueuesWhoseItemsLieApart(t *testing.T) {
	for _, step := range []int{1000, -1000, 1} {
		for deletes := range 60 {
			var lists [][]api.Op
			for i := range 7 {
				var l []api.Op
				for j := range 8 {
					l = append(l, ins(j, x(i*step+j*7)))
				}
				lists = append(lists, l)
			}
			last := make([]api.Op, deletes)
			for j := range last {
				last[j] = del(j)
			}
			check(t, "queues apart", append(lists, last)...)
		}
	}
}

func TestGreatViews(t *testing.T) {
	d := dice(65536)
	for _, lens := range [][]int{
		{api.MaxOps},
		{32768, 16384, 8192, 4096, 2048, 1024, 512, 256, 128, 64, 32, 16, 8, 4, 2, 1},
		{1, 2, 4, 8, 16, 32, 64, 128, 256, 512, 1024, 2048, 4096, 8192, 16384},
		{9000, 9000, 9000, 9000, 9000},
	} {
		lists := rolled(&d, lens, 42, 50000)
		want, v := run(lists...), view(queues(t, lists...)...)
		if v.Len() != len(want) || !slices.Equal(v.Items(), want) {
			t.Fatalf("P13.2: queues of %v: Len %d; want %d", lens, v.Len(), len(want))
		}
		for range 500 {
			k := d.roll(len(want))
			if got, ok := v.At(k); !ok || got != want[k] || !v.Has(got) {
				t.Errorf("P13.2: queues of %v: At(%d): %v, %v; want %v", lens, k, got, ok, want[k])
			}
		}
		for _, y := range inserted(lists...)[:500] {
			if _, left := slices.BinarySearchFunc(want, y, order); v.Has(y) != left {
				t.Errorf("P13.2: queues of %v: Has(%v): %v", lens, y, !left)
			}
		}
		if got, ok := v.Min(); !ok || got != want[0] {
			t.Errorf("P13.2: queues of %v: Min: %v, %v; want %v", lens, got, ok, want[0])
		}
	}
}

// looks is how many nodes of some queues' trees a view of them, and asking it, look at.
func looks(t *testing.T, l []*partial.Queue) int {
	t.Helper()
	n := 0
	for _, q := range l {
		n -= q.Visits()
	}
	v := view(l...)
	for _, k := range []int{v.Len() / 9, v.Len() / 2, v.Len() - 1} {
		if y, ok := v.At(k); !ok || !v.Has(y) {
			t.Errorf("P13.2: At(%d) of %d: %v, %v", k, v.Len(), y, ok)
		}
	}
	for _, q := range l {
		n += q.Visits()
	}
	return n
}

func TestViewsAreToldWithoutGoingThroughTheOperations(t *testing.T) {
	d := dice(13)
	// A search takes some turns for each level of the trees, each of which goes down each tree at most twice.
	if n := looks(t, queues(t, rolled(&d, []int{20000, 20000, 20000}, 45, 1<<40)...)); n > 20000 {
		t.Errorf("a view of 60000 operations looks at %d nodes", n)
	}
	// Nor does it take one queue's items after the other's, where these lie apart.
	var apart [][]api.Op
	for i := range 40 {
		var l []api.Op
		for time := range 500 {
			l = append(l, ins(time, x(1000*i+time)))
		}
		apart = append(apart, l)
	}
	if n := looks(t, queues(t, apart...)); n > 50000 {
		t.Errorf("a view of 40 queues looks at %d nodes", n)
	}
}
