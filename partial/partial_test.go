package partial

import (
	"cmp"
	"math"
	"math/bits"
	"slices"
	"testing"

	"whilom/api"
	"whilom/shelf"
	"whilom/wave"
)

// x is an item of a key.
func x(key int) api.Item { return api.Item{Key: key, ID: 7 * key} }

// ins and del are operations.
func ins(time int, y api.Item) api.Op { return api.Op{Time: time, Insert: true, Item: y} }
func del(time int) api.Op             { return api.Op{Time: time} }

// items are those of some keys.
func items(keys ...int) []api.Item {
	var l []api.Item
	for _, k := range keys {
		l = append(l, x(k))
	}
	return l
}

// in and out are changes.
func in(keys ...int) api.Change  { return api.Change{In: items(keys...)} }
func out(keys ...int) api.Change { return api.Change{Out: items(keys...)} }

// dice is a row of numbers that looks random and is the same each time.
type dice uint64

func (d *dice) roll(n int) int {
	*d ^= *d << 13
	*d ^= *d >> 7
	*d ^= *d << 17
	return int(uint64(*d) % uint64(n))
}

// ahead tells whether an item is ahead of another one.
func ahead(y, z api.Item) bool {
	return y.Key < z.Key || y.Key == z.Key && y.ID < z.ID
}

// inOrder sorts items.
func inOrder(l []api.Item) []api.Item {
	slices.SortFunc(l, func(y, z api.Item) int {
		if ahead(y, z) {
			return -1
		}
		return 1
	})
	return l
}

// plain is what a queue is held against: operations in a list, in the order of time, that are run through each time.
type plain struct {
	capacity int
	ops      []api.Op
}

// run goes through all operations: what is left, what is gone, and how many deletions took nothing.
func (p *plain) run() (left, gone []api.Item, excess int) {
	for _, o := range p.ops {
		if o.Insert {
			left = append(left, o.Item)
			continue
		}
		if len(left) == 0 {
			excess++
			continue
		}
		least := 0
		for i := range left {
			if ahead(left[i], left[least]) {
				least = i
			}
		}
		gone = append(gone, left[least])
		left = slices.Delete(left, least, least+1)
	}
	return inOrder(left), inOrder(gone), excess
}

// place is where an operation of a time is, or would be.
func (p *plain) place(time int) (int, bool) {
	return slices.BinarySearchFunc(p.ops, time, func(o api.Op, time int) int { return cmp.Compare(o.Time, time) })
}

// add adds an operation, if it may be.
func (p *plain) add(o api.Op) api.Errno {
	i, taken := p.place(o.Time)
	twice := slices.ContainsFunc(p.ops, func(q api.Op) bool { return o.Insert && q.Insert && q.Item == o.Item })
	switch {
	case len(p.ops) >= p.capacity:
		return api.ErrFull
	case taken:
		return api.ErrTime
	case twice:
		return api.ErrArg
	}
	p.ops = slices.Insert(p.ops, i, o)
	return api.OK
}

// revoke revokes an operation, if there is one.
func (p *plain) revoke(time int) api.Errno {
	i, there := p.place(time)
	if !there {
		return api.ErrNone
	}
	p.ops = slices.Delete(p.ops, i, i+1)
	return api.OK
}

// deletes are how many deletions there are.
func (p *plain) deletes() int {
	n := 0
	for _, o := range p.ops {
		if !o.Insert {
			n++
		}
	}
	return n
}

// without are the items of a list that another one doesn't have.
func without(l, m []api.Item) []api.Item {
	return slices.DeleteFunc(slices.Clone(l), func(y api.Item) bool { return slices.Contains(m, y) })
}

// slots are those of items, not Eaten.
func slots(l []api.Item) []shelf.Slot {
	var s []shelf.Slot
	for _, y := range l {
		s = append(s, shelf.Slot{Item: y})
	}
	return s
}

// pair is a queue and the plain one that it is held against.
type pair struct {
	q *Queue
	p *plain
}

// begin is a pair without operations.
func begin(capacity int) pair {
	return pair{New(capacity), &plain{capacity: min(max(capacity, 0), api.MaxOps)}}
}

// holds checks all that a queue tells.
func (b pair) holds(t *testing.T) {
	t.Helper()
	left, gone, excess := b.p.run()
	if b.q.Len() != len(b.p.ops) || b.q.Deletes() != b.p.deletes() || b.q.Excess() != excess {
		t.Fatalf("P12.1: %v: Len %d, Deletes %d, Excess %d; want %d, %d, %d", b.p.ops, b.q.Len(), b.q.Deletes(), b.q.Excess(), len(b.p.ops), b.p.deletes(), excess)
	}
	if ops := b.q.Ops(); !slices.Equal(ops, b.p.ops) {
		t.Fatalf("P12.1: Ops %v; want %v", ops, b.p.ops)
	}
	if got := b.q.Present().All(); !slices.Equal(got, slots(left)) {
		t.Fatalf("P12.1: %v: Present %v; want %v", b.p.ops, got, left)
	}
	if got := b.q.Gone().All(); !slices.Equal(got, slots(gone)) {
		t.Fatalf("P12.1: %v: Gone %v; want %v", b.p.ops, got, gone)
	}
	var marks []wave.Mark
	for _, o := range b.p.ops {
		marks = append(marks, wave.Mark{Op: o, Here: o.Insert && slices.Contains(left, o.Item)})
	}
	if got := b.q.Marks().All(); !slices.Equal(got, marks) {
		t.Fatalf("P12.1: Marks %v; want %v", got, marks)
	}
}

// judge checks what an edit answered against both runs, and all that the queue tells then.
func (b pair) judge(t *testing.T, name string, left []api.Item, c api.Change, e, want api.Errno) {
	t.Helper()
	if e != want {
		t.Fatalf("P12.2: %s: %v: error %d; want %d", name, b.p.ops, int(e), int(want))
	}
	now, _, _ := b.p.run()
	if !slices.Equal(c.In, without(now, left)) || !slices.Equal(c.Out, without(left, now)) {
		t.Fatalf("P12.3: %s: %v: change %v; %v was left, %v is now", name, b.p.ops, c, left, now)
	}
	if len(c.In)+len(c.Out) > 1 {
		t.Fatalf("P12.3: %s: %v: change %v", name, b.p.ops, c)
	}
	b.holds(t)
}

// add adds an operation to both.
func (b pair) add(t *testing.T, o api.Op) api.Errno {
	t.Helper()
	left, _, _ := b.p.run()
	want := b.p.add(o)
	if o.Insert {
		c, e := b.q.Insert(o.Time, o.Item)
		b.judge(t, "Insert", left, c, e, want)
	} else {
		c, e := b.q.Delete(o.Time)
		b.judge(t, "Delete", left, c, e, want)
	}
	return want
}

// revoke revokes an operation of both.
func (b pair) revoke(t *testing.T, time int) api.Errno {
	t.Helper()
	left, _, _ := b.p.run()
	want := b.p.revoke(time)
	c, e := b.q.Revoke(time)
	b.judge(t, "Revoke", left, c, e, want)
	return want
}

// of is a pair of these operations, added in an order that isn't theirs, with room for two more.
func of(t *testing.T, ops []api.Op) pair {
	t.Helper()
	b := begin(len(ops) + 2)
	shuffled := slices.Clone(ops)
	d := dice(len(ops) + 1)
	for i := range shuffled {
		j := d.roll(i + 1)
		shuffled[i], shuffled[j] = shuffled[j], shuffled[i]
	}
	for _, o := range shuffled {
		if e := b.add(t, o); e != api.OK {
			t.Fatalf("%v can't be added: %v", o, e)
		}
	}
	return b
}

// same tells whether two changes are alike: nil and empty lists are one.
func same(c, d api.Change) bool {
	return slices.Equal(c.In, d.In) && slices.Equal(c.Out, d.Out)
}

func TestANewQueueHasNothing(t *testing.T) {
	for _, capacity := range []int{math.MinInt, -1, 0, 1, 7, api.MaxOps, api.MaxOps + 1, math.MaxInt} {
		b := begin(capacity)
		b.holds(t)
		for _, time := range []int{math.MinInt, -1, 0, 1, math.MaxInt} {
			b.revoke(t, time)
		}
	}
}

func TestThereIsRoomForCapacityOperations(t *testing.T) {
	for _, row := range []struct{ capacity, room int }{{math.MinInt, 0}, {-1, 0}, {0, 0}, {1, 1}, {2, 2}, {5, 5}} {
		for kinds := range 1 << row.room {
			b := begin(row.capacity)
			for i := range row.room {
				o := del(i)
				if kinds>>i&1 == 1 {
					o = ins(i, x(i))
				}
				if e := b.add(t, o); e != api.OK {
					t.Fatalf("P12.1: New(%d) has no room for %d", row.capacity, i+1)
				}
			}
			for _, o := range []api.Op{ins(99, x(99)), del(99), ins(-1, x(-1)), del(-1)} {
				if e := b.add(t, o); e != api.ErrFull {
					t.Fatalf("P12.2: %v of %d: error %d; want ErrFull", o, row.capacity, int(e))
				}
			}
		}
	}
}

func TestTheMostRoom(t *testing.T) {
	for _, capacity := range []int{api.MaxOps, api.MaxOps + 1, math.MaxInt} {
		q := New(capacity)
		for i := range api.MaxOps {
			if _, e := q.Delete(i); e != api.OK {
				t.Fatalf("P12.1: New(%d) has no room for %d: %v", capacity, i+1, e)
			}
		}
		_, d := q.Delete(-1)
		_, i := q.Insert(-1, x(1))
		if d != api.ErrFull || i != api.ErrFull || q.Len() != api.MaxOps || q.Excess() != api.MaxOps {
			t.Errorf("P12.1: New(%d) has room for more: %v, %v, Len %d, Excess %d", capacity, d, i, q.Len(), q.Excess())
		}
	}
}

func TestWhatWasRevokedLeavesRoom(t *testing.T) {
	b := begin(3)
	b.add(t, ins(1, x(5)))
	b.add(t, del(2))
	b.add(t, ins(3, x(4)))
	for range 100 {
		for _, o := range slices.Clone(b.p.ops) {
			if b.revoke(t, o.Time) != api.OK || b.add(t, o) != api.OK || b.add(t, del(9)) != api.ErrFull {
				t.Fatalf("P12.2: what was revoked leaves room for one: %v", b.p.ops)
			}
		}
	}
}

func TestErrorsInTheirOrder(t *testing.T) {
	ops := []api.Op{ins(1, x(5)), ins(2, x(3)), del(3)} // 3 is gone, 5 is in the present
	full, roomy := begin(3), begin(4)
	for _, o := range ops {
		full.add(t, o)
		roomy.add(t, o)
	}
	for _, r := range []struct {
		o           api.Op
		full, roomy api.Errno
	}{
		{ins(1, x(5)), api.ErrFull, api.ErrTime},
		{ins(1, x(9)), api.ErrFull, api.ErrTime},
		{ins(3, x(3)), api.ErrFull, api.ErrTime},
		{ins(3, x(9)), api.ErrFull, api.ErrTime},
		{ins(9, x(5)), api.ErrFull, api.ErrArg}, // in the present
		{ins(9, x(3)), api.ErrFull, api.ErrArg}, // gone
		{ins(0, x(5)), api.ErrFull, api.ErrArg},
		{ins(0, x(3)), api.ErrFull, api.ErrArg},
		{del(1), api.ErrFull, api.ErrTime},
		{del(3), api.ErrFull, api.ErrTime},
		{del(9), api.ErrFull, api.OK},
		{ins(9, x(9)), api.ErrFull, api.OK},
		{ins(9, api.Item{Key: 5, ID: 3}), api.ErrFull, api.OK}, // of one Key isn't alike
		{ins(9, api.Item{Key: 3, ID: 35}), api.ErrFull, api.OK},
	} {
		if e := full.add(t, r.o); e != r.full {
			t.Errorf("P12.2: %v while it is full: error %d; want %d", r.o, int(e), int(r.full))
		}
		e := roomy.add(t, r.o)
		if e != r.roomy {
			t.Errorf("P12.2: %v: error %d; want %d", r.o, int(e), int(r.roomy))
		}
		if e == api.OK {
			roomy.revoke(t, r.o.Time)
		}
	}
	for _, time := range []int{math.MinInt, -1, 0, 4, math.MaxInt} {
		if e := full.revoke(t, time); e != api.ErrNone {
			t.Errorf("P12.2: Revoke(%d): error %d; want ErrNone", time, int(e))
		}
	}
	if full.revoke(t, 2) != api.OK || full.revoke(t, 2) != api.ErrNone {
		t.Error("P12.2: Revoke a second time is ErrNone")
	}
}

func TestTheChaptersExample(t *testing.T) {
	b := begin(9)
	b.add(t, ins(1, x(5)))
	b.add(t, ins(2, x(3)))
	b.add(t, del(3))
	if got := shelf.Items(b.q.Present()); !slices.Equal(got, items(5)) {
		t.Errorf("P12.1: Present %v", got)
	}
	if c, e := b.q.Revoke(2); e != api.OK || !same(c, out(5)) {
		t.Errorf("P12.2: Revoke(2): %v, %v", c, e)
	}
	if c, e := b.q.Delete(0); e != api.OK || !same(c, api.Change{}) || b.q.Excess() != 1 {
		t.Errorf("P12.2: Delete(0): %v, %v, Excess %d", c, e, b.q.Excess())
	}
}

// row is an edit by hand: the operation is added, or (revoke) the one of its time revoked; its change, what is left then, and the excess.
type row struct {
	revoke bool
	op     api.Op
	change api.Change
	left   []int
	excess int
}

// follow makes edits one after the other.
func follow(t *testing.T, name string, rows []row) {
	t.Helper()
	q := New(20)
	for i, r := range rows {
		var c api.Change
		var e api.Errno
		switch {
		case r.revoke:
			c, e = q.Revoke(r.op.Time)
		case r.op.Insert:
			c, e = q.Insert(r.op.Time, r.op.Item)
		default:
			c, e = q.Delete(r.op.Time)
		}
		if e != api.OK || !same(c, r.change) {
			t.Errorf("P12.2: %s, edit %d: %v, %v; want %v", name, i, c, e, r.change)
		}
		if got := shelf.Items(q.Present()); !slices.Equal(got, items(r.left...)) || q.Excess() != r.excess {
			t.Errorf("P12.1: %s, edit %d: Present %v, Excess %d; want %v, %d", name, i, got, q.Excess(), r.left, r.excess)
		}
	}
}

func TestEditsByHand(t *testing.T) {
	none := api.Change{}
	follow(t, "a lesser item ahead of a deletion takes the blow", []row{
		{false, ins(10, x(5)), in(5), []int{5}, 0},
		{false, del(20), out(5), nil, 0},
		{false, ins(15, x(3)), in(5), []int{5}, 0},
		{false, ins(25, x(1)), in(1), []int{1, 5}, 0}, // behind the deletion
		{false, del(30), out(1), []int{5}, 0},
		{false, ins(0, x(2)), in(3), []int{3, 5}, 0},
		{true, del(20), in(2), []int{2, 3, 5}, 0},
		{true, del(30), in(1), []int{1, 2, 3, 5}, 0},
		{true, del(15), out(3), []int{1, 2, 5}, 0},
	})
	follow(t, "deletions that find nothing", []row{
		{false, del(5), none, nil, 1},
		{false, del(7), none, nil, 2},
		{false, ins(6, x(4)), none, nil, 1}, // gone at once
		{false, ins(8, x(9)), in(9), []int{9}, 1},
		{false, ins(3, x(1)), none, []int{9}, 0},
		{false, ins(4, x(8)), in(8), []int{8, 9}, 0},
		{true, del(3), out(8), []int{9}, 0},
		{true, del(4), none, []int{9}, 1}, // one that is gone, and no other one for it
		{true, del(7), in(4), []int{4, 9}, 1},
		{true, del(5), none, []int{4, 9}, 0},
	})
	follow(t, "a deletion revoked lets its item back, or one of those ahead of all time", []row{
		{false, del(0), none, nil, 1},
		{false, ins(1, x(4)), in(4), []int{4}, 1},
		{false, del(2), out(4), nil, 1},
		{true, del(0), none, nil, 0},
		{true, del(2), in(4), []int{4}, 0},
		{false, del(0), none, []int{4}, 1},
		{false, del(2), out(4), nil, 1},
		{true, del(2), in(4), []int{4}, 1},
	})
	follow(t, "a bridge right at the edit", []row{
		{false, ins(1, x(5)), in(5), []int{5}, 0},
		{false, del(2), out(5), nil, 0},
		{false, ins(4, x(2)), in(2), []int{2}, 0},
		{false, ins(5, x(6)), in(6), []int{2, 6}, 0},
		{false, ins(3, x(3)), in(3), []int{2, 3, 6}, 0}, // 5 is greater, and gone, but ahead of the bridge at 2
		{false, del(6), out(2), []int{3, 6}, 0},
		{true, del(4), out(3), []int{6}, 0},
		{true, del(6), in(3), []int{3, 6}, 0},
		{false, ins(7, x(1)), in(1), []int{1, 3, 6}, 0},
		{false, del(6), out(3), []int{1, 6}, 0}, // 1 is lesser, but behind the bridge at 6
	})
}

// timelines are all of n operations at the times 0, 10 .. that differ: deletions, and insertions of the keys 10, 20 .. in whichever order.
func timelines(n int) [][]api.Op {
	lists := [][]api.Op{nil}
	for i := range n {
		var longer [][]api.Op
		for _, l := range lists {
			keys := 0
			for _, o := range l {
				if o.Insert {
					keys++
				}
			}
			longer = append(longer, append(slices.Clone(l), del(10*i)))
			// The new key is put between those that are there, which are numbered anew.
			for k := range keys + 1 {
				m := slices.Clone(l)
				for j := range m {
					if m[j].Insert && m[j].Item.Key >= 10*(k+1) {
						m[j].Item = x(m[j].Item.Key + 10)
					}
				}
				longer = append(longer, append(m, ins(10*i, x(10*(k+1)))))
			}
		}
		lists = longer
	}
	return lists
}

func TestAllEditsOfAllShortTimelines(t *testing.T) {
	for n := range 6 {
		for _, ops := range timelines(n) {
			b := of(t, ops)
			for _, o := range ops {
				b.revoke(t, o.Time)
				b.add(t, o)
			}
			for i := range n + 1 {
				time := 10*i - 5
				b.add(t, del(time))
				b.revoke(t, time)
				for k := range n + 1 {
					b.add(t, ins(time, x(10*k+5)))
					b.revoke(t, time)
				}
			}
		}
	}
}

func TestAllPairsOfEditsOfShortTimelines(t *testing.T) {
	for n := range 4 {
		for _, ops := range timelines(n) {
			for _, first := range append(slices.Clone(ops), del(-5), del(15), ins(-5, x(5)), ins(15, x(15))) {
				for _, second := range append(slices.Clone(ops), del(-6), del(16), ins(-6, x(6)), ins(16, x(16))) {
					b := of(t, ops)
					for _, o := range []api.Op{first, second, first, second} {
						if b.revoke(t, o.Time) != api.OK {
							b.add(t, o)
						}
					}
				}
			}
		}
	}
}

// wander makes edits that look random: of a hundred, so many add an insertion, so many a deletion, and the others revoke.
func wander(t *testing.T, d *dice, b pair, edits, inserts, deletes int, time func() int, y func() api.Item) {
	t.Helper()
	for range edits {
		switch kind := d.roll(100); {
		case kind < inserts:
			b.add(t, ins(time(), y()))
		case kind < inserts+deletes:
			b.add(t, del(time()))
		case len(b.p.ops) > 0 && kind%8 > 0:
			b.revoke(t, b.p.ops[d.roll(len(b.p.ops))].Time)
		default:
			b.revoke(t, time())
		}
	}
}

func TestLongWalks(t *testing.T) {
	d := dice(20261120)
	for _, capacity := range []int{3, 10, 40, 150} {
		for _, mix := range []struct{ inserts, deletes int }{{35, 30}, {45, 25}, {25, 45}, {60, 5}, {5, 60}, {20, 20}} {
			time := func() int { return d.roll(2*capacity) - capacity }
			y := func() api.Item { return api.Item{Key: d.roll(capacity) - capacity/2, ID: d.roll(4) - 2} }
			wander(t, &d, begin(capacity), 600, mix.inserts, mix.deletes, time, y)
		}
	}
}

func TestAGreatQueue(t *testing.T) {
	const n = 5000
	b := begin(n)
	d := dice(3)
	for len(b.p.ops) < n {
		time, y := d.roll(1<<40), api.Item{Key: d.roll(n) - n/2, ID: d.roll(1 << 40)}
		if d.roll(2) == 0 {
			b.q.Insert(time, y)
			b.p.add(ins(time, y))
		} else {
			b.q.Delete(time)
			b.p.add(del(time))
		}
	}
	b.holds(t)
	for len(b.p.ops) > 0 {
		for range n / 5 {
			time := b.p.ops[d.roll(len(b.p.ops))].Time
			b.q.Revoke(time)
			b.p.revoke(time)
		}
		b.holds(t)
	}
}

func TestTheEdgesOfTimesAndItems(t *testing.T) {
	edges := []int{math.MinInt, math.MinInt + 1, -1, 0, 1, math.MaxInt - 1, math.MaxInt}
	d := dice(9)
	edge := func() int { return edges[d.roll(len(edges))] }
	for range 40 {
		y := func() api.Item { return api.Item{Key: edge(), ID: edge()} }
		wander(t, &d, begin(9), 200, 40, 30, edge, y)
	}
	// Even the greatest item of all is ahead of those that were there ahead of all time.
	b := begin(4)
	most := api.Item{Key: math.MaxInt, ID: math.MaxInt}
	b.add(t, del(math.MinInt))
	b.add(t, ins(math.MaxInt-1, most))
	b.add(t, del(math.MaxInt))
	if got := shelf.Items(b.q.Gone()); !slices.Equal(got, []api.Item{most}) || b.q.Excess() != 1 {
		t.Errorf("P12.1: Gone %v, Excess %d", got, b.q.Excess())
	}
}

// watch makes an edit of a queue, and checks its error and how many nodes it visits: so many.
func watch(t *testing.T, q *Queue, want api.Errno, edit func() (api.Change, api.Errno)) int {
	t.Helper()
	n, before := q.Len(), q.Visits()
	_, e := edit()
	visits := q.Visits() - before
	if room := 10000 * (2 + 3*(bits.Len(uint(n+1))-1) + 4); e != want || visits > room {
		t.Fatalf("P12.4: an edit of %d operations: error %d, %d visits; want %d, the bound is %d", n, int(e), visits, int(want), room)
	}
	return visits
}

// grown is a queue of n operations of a shape: 0 looks random, 1 has all deletions last, 2 all first, 3 by turns, 4 all in heaps.
func grown(t *testing.T, shape, n int) *Queue {
	t.Helper()
	q := New(n + 2)
	d := dice(shape + 11)
	for i := range n {
		y := api.Item{Key: d.roll(n), ID: i}
		edit := func() (api.Change, api.Errno) { return q.Insert(2*i, y) }
		if [5]bool{d.roll(2) == 0, 2*i >= n, 2*i < n, i%2 == 1, i%64 >= 40}[shape] {
			edit = func() (api.Change, api.Errno) { return q.Delete(2 * i) }
		}
		watch(t, q, api.OK, edit)
	}
	return q
}

func TestEditsVisitFewNodes(t *testing.T) {
	for _, n := range []int{0, 1, 2, 3, 7, 8, 100, 1023, 9000} {
		for shape := range 5 {
			q := grown(t, shape, n)
			d := dice(n + 3)
			for i := range 200 {
				time := 2*d.roll(n+1) - 1
				y := api.Item{Key: d.roll(n + 1), ID: -i - 1}
				remove := func() (api.Change, api.Errno) { return q.Delete(time) }
				insert := func() (api.Change, api.Errno) { return q.Insert(time, y) }
				again := func() (api.Change, api.Errno) { return q.Insert(-3, y) }
				revoke := func() (api.Change, api.Errno) { return q.Revoke(time) }
				visits := watch(t, q, api.OK, remove)
				visits += watch(t, q, api.ErrTime, remove)
				visits += watch(t, q, api.OK, revoke)
				visits += watch(t, q, api.OK, insert)
				visits += watch(t, q, api.ErrArg, again)
				visits += watch(t, q, api.OK, revoke)
				visits += watch(t, q, api.ErrNone, revoke)
				if visits == 0 || q.Len() != n {
					t.Fatalf("P12.4: edits of %d operations leave %d, and visit %d nodes", n, q.Len(), visits)
				}
			}
		}
	}
}

func TestVisitsAreThoseOfAllTrees(t *testing.T) {
	b := begin(10)
	before := 0
	for i := range 10 {
		if i%3 == 2 {
			b.q.Delete(i)
		} else {
			b.q.Insert(i, x(-i))
		}
		sum := b.q.Marks().Visits() + b.q.Present().Visits() + b.q.Gone().Visits()
		if got := b.q.Visits(); got != sum || got <= before && i > 0 {
			t.Errorf("P12.4: Visits %d, those of the trees %d, before the edit %d", got, sum, before)
		}
		before = sum
	}
}

func TestAnswersAreNewMemory(t *testing.T) {
	b := begin(8)
	spoil := func(l []api.Item) {
		for i := range l {
			l[i] = x(-99)
		}
		_ = append(l, x(-98))
	}
	for i, key := range []int{5, 3, 9, 4} {
		c, _ := b.q.Insert(10*i, x(key))
		b.p.add(ins(10*i, x(key)))
		spoil(c.In)
		spoil(c.Out)
		b.holds(t)
	}
	for _, time := range []int{5, 35} {
		c, _ := b.q.Delete(time)
		b.p.add(del(time))
		spoil(c.Out)
		b.holds(t)
	}
	ops := b.q.Ops()
	kept := b.q.Ops()
	for i := range ops {
		ops[i] = del(-99)
	}
	_ = append(ops, del(-98))
	b.holds(t)
	c, _ := b.q.Revoke(5)
	b.p.revoke(5)
	spoil(c.In)
	b.holds(t)
	if len(kept) != 6 || kept[1] != del(5) || kept[0] != ins(0, x(5)) {
		t.Errorf("P12.1: what Ops answered has changed: %v", kept)
	}
}

func TestAQueueDependsOnItsOwnEditsAlone(t *testing.T) {
	a, b := begin(6), begin(6)
	a.add(t, ins(1, x(5)))
	b.add(t, ins(1, x(5)))
	a.add(t, del(2))
	b.add(t, del(0))
	a.add(t, ins(3, x(2)))
	b.revoke(t, 1)
	a.holds(t)
	b.holds(t)
}

func TestTheOrderOfEditsDoesNotMatter(t *testing.T) {
	ops := []api.Op{ins(1, x(5)), del(2), ins(3, x(9)), ins(4, x(2)), del(5), ins(6, x(7))}
	for skip := range len(ops) * 5 {
		b := begin(6)
		rest := slices.Clone(ops)
		for at := skip; len(rest) > 0; at += skip + 1 {
			i := at % len(rest)
			b.add(t, rest[i])
			rest = slices.Delete(rest, i, i+1)
		}
		if got := shelf.Items(b.q.Present()); !slices.Equal(got, items(7, 9)) {
			t.Errorf("P12.1: Present %v", got)
		}
	}
}
