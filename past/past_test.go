package past

import (
	"cmp"
	"math"
	"math/bits"
	"slices"
	"testing"

	"whilom/api"
	"whilom/fuse"
	"whilom/partial"
)

// x is an item of a key.
func x(key int) api.Item { return api.Item{Key: key, ID: 3 * key} }

// ins and del are operations.
func ins(time int, y api.Item) api.Op { return api.Op{Time: time, Insert: true, Item: y} }
func del(time int) api.Op             { return api.Op{Time: time} }

// items are those of some keys.
func items(keys ...int) []api.Item {
	var l []api.Item
	for _, k := range keys {
		l = append(l, x(k))
	}
	return l
}

// dice is a row of numbers that looks random and is the same each time.
type dice uint64

func (d *dice) roll(n int) int {
	*d ^= *d << 13
	*d ^= *d >> 7
	*d ^= *d << 17
	return int(uint64(*d) % uint64(n))
}

// shuffled is a list in another order.
func shuffled[T any](d *dice, l []T) []T {
	l = slices.Clone(l)
	for i := range l {
		j := d.roll(i + 1)
		l[i], l[j] = l[j], l[i]
	}
	return l
}

// order orders items.
func order(y, z api.Item) int {
	return cmp.Or(cmp.Compare(y.Key, z.Key), cmp.Compare(y.ID, z.ID))
}

// run goes through operations: what they leave.
func run(ops []api.Op) []api.Item {
	var left []api.Item
	for _, o := range ops {
		if o.Insert {
			i, _ := slices.BinarySearchFunc(left, o.Item, order)
			left = slices.Insert(left, i, o.Item)
		} else if len(left) > 0 {
			left = left[1:]
		}
	}
	return left
}

// plain is what a past is held against: operations in a list, in the order of time.
type plain struct {
	capacity int
	ops      []api.Op
}

// place is where an operation of a time is, or would be.
func (p *plain) place(time int) (int, bool) {
	return slices.BinarySearchFunc(p.ops, time, func(o api.Op, time int) int { return cmp.Compare(o.Time, time) })
}

// add adds an operation, if it may be.
func (p *plain) add(o api.Op) api.Errno {
	i, taken := p.place(o.Time)
	twice := slices.ContainsFunc(p.ops, func(q api.Op) bool { return o.Insert && q.Insert && q.Item == o.Item })
	switch {
	case len(p.ops) >= p.capacity:
		return api.ErrFull
	case taken:
		return api.ErrTime
	case twice:
		return api.ErrArg
	}
	p.ops = slices.Insert(p.ops, i, o)
	return api.OK
}

// revoke revokes an operation, if there is one.
func (p *plain) revoke(time int) api.Errno {
	i, there := p.place(time)
	if !there {
		return api.ErrNone
	}
	p.ops = slices.Delete(p.ops, i, i+1)
	return api.OK
}

// upTo are the operations up to a time, before are those before it.
func (p *plain) upTo(time int) []api.Op {
	i, there := p.place(time)
	if there {
		i++
	}
	return p.ops[:i]
}

func (p *plain) before(time int) []api.Op {
	i, _ := p.place(time)
	return p.ops[:i]
}

// both is a past, and what it is held against.
type both struct {
	past  *Past
	plain *plain
}

// begin is a past without operations.
func begin(capacity int) both {
	return both{New(capacity), &plain{capacity: min(max(capacity, 0), api.MaxOps)}}
}

// of is a past of operations, which are added in the order of the list.
func of(t *testing.T, ops ...api.Op) both {
	t.Helper()
	b := begin(len(ops) + 4)
	for _, o := range ops {
		if e := b.add(t, o); e != api.OK {
			t.Fatalf("P14.1: %v can't be added: %v", o, e)
		}
	}
	return b
}

// add adds an operation to both, if they say the same.
func (b both) add(t *testing.T, o api.Op) api.Errno {
	t.Helper()
	want := b.plain.add(o)
	if e := enter(b.past, o); e != want {
		t.Fatalf("P14.1: %v added to %v: %v; want %v", o, b.plain.ops, e, want)
	}
	return want
}

// enter adds an operation to a past.
func enter(p *Past, o api.Op) api.Errno {
	if o.Insert {
		return p.Insert(o.Time, o.Item)
	}
	return p.Delete(o.Time)
}

// revoke revokes an operation of both, if they say the same.
func (b both) revoke(t *testing.T, time int) api.Errno {
	t.Helper()
	want := b.plain.revoke(time)
	if e := b.past.Revoke(time); e != want {
		t.Fatalf("P14.1: Revoke(%d) of %v: %v; want %v", time, b.plain.ops, e, want)
	}
	return want
}

// same checks all that a view tells: that just these items are left.
func same(t *testing.T, name string, time int, v fuse.Views, want []api.Item) {
	t.Helper()
	if got := v.Items(); !slices.Equal(got, want) || v.Len() != len(want) {
		t.Fatalf("P14.2: %s(%d): Items %v, Len %d; want %v", name, time, got, v.Len(), want)
	}
	for k, y := range want {
		if got, ok := v.At(k); !ok || got != y || !v.Has(y) {
			t.Fatalf("P14.2: %s(%d): At(%d): %v, %v, Has: %v; want %v of %v", name, time, k, got, ok, v.Has(y), y, want)
		}
	}
	if got, ok := v.At(len(want)); ok || got != (api.Item{}) {
		t.Fatalf("P14.2: %s(%d): At(%d): %v, %v; want none", name, time, len(want), got, ok)
	}
	first := append(slices.Clip(want), api.Item{})[0]
	if got, ok := v.Min(); ok != (len(want) > 0) || got != first {
		t.Fatalf("P14.2: %s(%d): Min: %v, %v; of %v", name, time, got, ok, want)
	}
}

// ask checks what both views of a time tell.
func (b both) ask(t *testing.T, time int) {
	t.Helper()
	same(t, "At", time, b.past.At(time), run(b.plain.upTo(time)))
	same(t, "Ahead", time, b.past.Ahead(time), run(b.plain.before(time)))
}

// holds checks what a past tells of its operations, and how high its tree is.
func (b both) holds(t *testing.T) {
	t.Helper()
	n := len(b.plain.ops)
	if got := b.past.Len(); got != n {
		t.Fatalf("P14.1: Len %d; want %d", got, n)
	}
	if got := b.past.Ops(); !slices.Equal(got, b.plain.ops) {
		t.Fatalf("P14.1: Ops %v; want %v", got, b.plain.ops)
	}
	b.low(t)
}

// low checks how high the tree is.
func (b both) low(t *testing.T) {
	t.Helper()
	n := len(b.plain.ops)
	most := 8 + 3*(bits.Len(uint(n+1))-1)
	// No tree of so many nodes has a shorter longest way.
	least := bits.Len(uint(n))
	if h := b.past.Height(); h < least || h > most {
		t.Fatalf("P14.3: Height %d of %d operations; want %d to %d", h, n, least, most)
	}
}

// all checks all that a past tells: at, beside and between all times, and beyond them.
func (b both) all(t *testing.T) {
	t.Helper()
	b.holds(t)
	for _, o := range b.plain.ops {
		for _, time := range []int{o.Time - 1, o.Time, o.Time + 1} {
			b.ask(t, time)
		}
	}
	b.ask(t, math.MinInt)
	b.ask(t, math.MaxInt)
}

func TestANewPastHasNothing(t *testing.T) {
	for _, capacity := range []int{math.MinInt, -1, 0, 1, 100, api.MaxOps, api.MaxOps + 1, math.MaxInt} {
		b := begin(capacity)
		for _, time := range []int{math.MinInt, math.MinInt + 1, -1, 0, 1, math.MaxInt - 1, math.MaxInt} {
			b.ask(t, time)
			b.revoke(t, time)
		}
		b.holds(t)
		if h := b.past.Height(); h != 0 {
			t.Errorf("P14.3: Height %d of no nodes", h)
		}
	}
}

func TestTheChaptersExample(t *testing.T) {
	p := New(10)
	if p.Insert(1, x(5)) != api.OK || p.Insert(2, x(3)) != api.OK || p.Delete(3) != api.OK {
		t.Fatal("P14.1: an edit was refused")
	}
	for _, row := range []struct {
		name string
		view fuse.Views
		want []api.Item
	}{
		{"At(2)", p.At(2), items(3, 5)}, {"Ahead(2)", p.Ahead(2), items(5)}, {"At(9)", p.At(9), items(5)},
		{"At(0)", p.At(0), nil}, {"At(1)", p.At(1), items(5)}, {"Ahead(1)", p.Ahead(1), nil},
		{"Ahead(3)", p.Ahead(3), items(3, 5)}, {"At(3)", p.At(3), items(5)}, {"Ahead(9)", p.Ahead(9), items(5)},
	} {
		if got := row.view.Items(); !slices.Equal(got, row.want) {
			t.Errorf("P14.2: %s: %v; want %v", row.name, got, row.want)
		}
	}
	if got := p.Ops(); !slices.Equal(got, []api.Op{ins(1, x(5)), ins(2, x(3)), del(3)}) || p.Len() != 3 {
		t.Errorf("P14.1: Ops %v, Len %d", got, p.Len())
	}
}

func TestThePastIsEditedByHand(t *testing.T) {
	p := New(10)
	holds := func(what string, at int, want ...int) {
		t.Helper()
		if got := p.At(at).Items(); !slices.Equal(got, items(want...)) {
			t.Errorf("P14.2: %s: At(%d): %v; want %v", what, at, got, want)
		}
	}
	p.Insert(10, x(5))
	p.Delete(20)
	holds("5 is deleted", 20)
	p.Insert(15, x(3))
	holds("3 is deleted in its place", 20, 5)
	holds("and is there till then", 19, 3, 5)
	p.Delete(5)
	holds("a deletion that finds nothing", 30, 5)
	p.Insert(4, x(9))
	holds("finds something", 5)
	holds("which is there till then", 4, 9)
	holds("and that is all of it", 30, 5)
	p.Revoke(5)
	holds("and is gone", 30, 5, 9)
	holds("so 9 is there", 10, 5, 9)
	p.Revoke(15)
	holds("3 never was", 15, 5, 9)
	holds("so 5 is deleted", 20, 9)
	p.Revoke(20)
	p.Insert(20, x(3))
	holds("its time is free, and so is the item", 20, 3, 5, 9)
}

func TestErrorsInTheirOrder(t *testing.T) {
	b := of(t, ins(1, x(5)), del(2), ins(3, x(7)))
	y := x(9)
	for _, row := range []struct {
		name string
		o    api.Op
		want api.Errno
	}{
		{"an insertion's time", ins(1, y), api.ErrTime}, {"a deletion's", ins(2, y), api.ErrTime},
		{"a time ahead of an item", ins(3, x(5)), api.ErrTime}, {"its own item and time", ins(1, x(5)), api.ErrTime},
		{"an item that is there", ins(4, x(7)), api.ErrArg}, {"one that is gone", ins(4, x(5)), api.ErrArg}, {"one ahead of it", ins(0, x(7)), api.ErrArg},
		{"a deletion at an insertion's time", del(1), api.ErrTime}, {"at a deletion's", del(2), api.ErrTime},
	} {
		if e := enter(b.past, row.o); e != row.want {
			t.Errorf("P14.1: %s: %v; want %v", row.name, e, row.want)
		}
		b.all(t)
	}
	for _, time := range []int{math.MinInt, -1, 0, 4, math.MaxInt} {
		if e := b.past.Revoke(time); e != api.ErrNone {
			t.Errorf("P14.1: Revoke(%d): %v; want %v", time, e, api.ErrNone)
		}
		b.all(t)
	}
	for i := range 4 {
		b.add(t, del(10+i))
	}
	for _, o := range []api.Op{ins(1, y), ins(99, x(5)), ins(1, x(5)), ins(99, y), del(1), del(99)} {
		if e := enter(b.past, o); e != api.ErrFull {
			t.Errorf("P14.1: %v added to a full past: %v; want %v", o, e, api.ErrFull)
		}
	}
	b.all(t)
	// One of its key, or of its ID, isn't the item.
	b = of(t, ins(1, api.Item{Key: 5, ID: 2}))
	b.add(t, ins(2, api.Item{Key: 5, ID: 3}))
	b.add(t, ins(3, api.Item{Key: 4, ID: 2}))
	b.add(t, ins(4, api.Item{Key: 5, ID: 2}))
	b.all(t)
}

func TestThereIsRoomForCapacityOperations(t *testing.T) {
	for _, capacity := range []int{math.MinInt, -5, -1, 0, 1, 2, 3, 10, 33} {
		b := begin(capacity)
		for i := range 40 {
			b.add(t, ins(7*i%40, x(i)))
			b.add(t, del(100+7*i%40))
		}
		b.all(t)
		// What is revoked leaves room for one: no more, and no less, however often.
		for i := range 40 {
			b.revoke(t, 7*i%40)
			b.add(t, ins(200+i, x(100+i)))
			b.add(t, ins(300+i, x(200+i)))
		}
		b.all(t)
	}
}

func TestTheMostRoom(t *testing.T) {
	for _, capacity := range []int{api.MaxOps, api.MaxOps + 1, math.MaxInt} {
		p := New(capacity)
		for i := range api.MaxOps {
			if e := p.Delete(i ^ 21845); e != api.OK {
				t.Fatalf("P14.1: the operation %d of a past for %d: %v", i, capacity, e)
			}
		}
		if e := p.Insert(-1, x(1)); e != api.ErrFull || p.Len() != api.MaxOps || p.Height() > 8+3*16 {
			t.Errorf("P14.1: one more than MaxOps: %v, Len %d, Height %d", e, p.Len(), p.Height())
		}
		if p.Revoke(70) != api.OK || p.Insert(-1, x(1)) != api.OK || p.Delete(70) != api.ErrFull {
			t.Error("P14.1: a full past, one revoked")
		}
	}
}

// timelines are all of n operations at the times 0, 10 .. that differ: deletions, and insertions of the keys 10, 20 .. in whichever order.
func timelines(n int) [][]api.Op {
	lists := [][]api.Op{nil}
	for i := range n {
		var longer [][]api.Op
		for _, l := range lists {
			longer = append(longer, append(slices.Clone(l), del(10*i)))
			keys := 0
			for _, o := range l {
				if o.Insert {
					keys++
				}
			}
			// The new key is put between those that are there, which are numbered anew.
			for k := range keys + 1 {
				m := slices.Clone(l)
				for j := range m {
					if m[j].Insert && m[j].Item.Key >= 10*(k+1) {
						m[j].Item = x(m[j].Item.Key + 10)
					}
				}
				longer = append(longer, append(m, ins(10*i, x(10*(k+1)))))
			}
		}
		lists = longer
	}
	return lists
}

// orders are all orders of a list.
func orders(l []api.Op) [][]api.Op {
	if len(l) == 0 {
		return [][]api.Op{nil}
	}
	var all [][]api.Op
	for i, o := range l {
		for _, rest := range orders(slices.Delete(slices.Clone(l), i, i+1)) {
			all = append(all, append(rest, o))
		}
	}
	return all
}

func TestAllOrdersOfAllShortTimelines(t *testing.T) {
	for n := range 6 {
		for _, ops := range timelines(n) {
			for _, l := range orders(ops) {
				b := of(t, l...)
				b.all(t)
			}
		}
	}
}

func TestAllEditsOfAllShortTimelines(t *testing.T) {
	d := dice(14)
	for n := range 6 {
		for _, ops := range timelines(n) {
			b := of(t, shuffled(&d, ops)...)
			for _, o := range ops {
				b.revoke(t, o.Time)
				b.all(t)
				b.add(t, o)
				b.all(t)
			}
			for i := range n + 1 {
				time := 10*i - 5
				b.add(t, del(time))
				b.all(t)
				b.revoke(t, time)
				b.all(t)
				for k := range n + 1 {
					b.add(t, ins(time, x(10*k+5)))
					b.all(t)
					b.revoke(t, time)
				}
			}
			b.all(t)
		}
	}
}

func TestAllOfAShortTimelineIsRevokedInAllOrders(t *testing.T) {
	ops := []api.Op{ins(1, x(4)), ins(2, x(1)), del(3), ins(4, x(2)), del(5), ins(6, x(3))}
	for i, l := range orders(ops) {
		b := of(t, ops...)
		for j, o := range l {
			b.revoke(t, o.Time)
			if i%8 == 0 {
				b.all(t)
			}
			// Others take the places of those that were revoked.
			if i%3 == 0 {
				b.add(t, ins(10*o.Time+j, o.Item))
			}
		}
		b.all(t)
	}
}

// tree checks a subtree: what it notes of itself, and that its queue, if it was asked for, is one of its operations. It answers these, and all times of its leaves.
func tree(t *testing.T, n *node) (ops []api.Op, times []int) {
	t.Helper()
	leaves, height := 1, 1
	if n.leaf() {
		times = []int{n.last}
		if n.holds {
			ops = []api.Op{n.op}
		}
	} else {
		ops, times = tree(t, n.left)
		right, more := tree(t, n.right)
		ops, times = append(ops, right...), append(times, more...)
		leaves, height = n.left.leaves+n.right.leaves, 1+max(n.left.height, n.right.height)
		if 4*max(n.left.leaves, n.right.leaves) > 3*leaves {
			t.Fatalf("P14.3: a subtree of %d and %d leaves", n.left.leaves, n.right.leaves)
		}
	}
	if n.leaves != leaves || n.leaves != len(times) || n.height != height || n.last != times[len(times)-1] {
		t.Fatalf("P14.3: a subtree of the times %v has %d leaves, Height %d, the last time %d", times, n.leaves, n.height, n.last)
	}
	if n.queue != nil && !slices.Equal(n.queue.Ops(), ops) {
		t.Fatalf("P14.2: a subtree of %v has a queue of %v", ops, n.queue.Ops())
	}
	return ops, times
}

// grown checks the tree as a whole.
func (b both) grown(t *testing.T) {
	t.Helper()
	if b.past.root == nil {
		if len(b.plain.ops) > 0 {
			t.Fatalf("P14.2: no tree of %v", b.plain.ops)
		}
		return
	}
	ops, times := tree(t, b.past.root)
	if !slices.Equal(ops, b.plain.ops) {
		t.Fatalf("P14.2: a tree of %v; want %v", ops, b.plain.ops)
	}
	for i, time := range times[1:] {
		if times[i] >= time {
			t.Fatalf("P14.2: leaves at the times %v", times)
		}
	}
	if len(times) > 2*len(ops) {
		t.Fatalf("P14.3: a tree of %d leaves with %d operations", len(times), len(ops))
	}
	if b.past.Height() != b.past.root.height {
		t.Fatalf("P14.3: Height %d of a tree whose longest way has %d nodes", b.past.Height(), b.past.root.height)
	}
}

// wander makes edits that look random: of a hundred, so many add an insertion, so many a deletion, and the others revoke; now and then it asks.
func wander(t *testing.T, d *dice, b both, edits, inserts, deletes int, time func() int, y func() api.Item) {
	t.Helper()
	for i := range edits {
		switch kind := d.roll(100); {
		case kind < inserts:
			b.add(t, ins(time(), y()))
		case kind < inserts+deletes:
			b.add(t, del(time()))
		case len(b.plain.ops) > 0 && kind%8 > 0:
			b.revoke(t, b.plain.ops[d.roll(len(b.plain.ops))].Time)
		default:
			b.revoke(t, time())
		}
		b.holds(t)
		b.ask(t, time())
		if i%16 == 0 {
			b.grown(t)
			b.all(t)
		}
	}
	b.all(t)
}

func TestLongWalks(t *testing.T) {
	d := dice(20261120)
	for _, capacity := range []int{1, 3, 10, 40, 120} {
		for _, mix := range []struct{ inserts, deletes int }{{35, 30}, {45, 25}, {25, 45}, {60, 5}, {5, 60}, {20, 20}} {
			time := func() int { return d.roll(2*capacity) - capacity }
			y := func() api.Item { return api.Item{Key: d.roll(capacity) - capacity/2, ID: d.roll(4) - 2} }
			wander(t, &d, begin(capacity), 300, mix.inserts, mix.deletes, time, y)
		}
	}
}

func TestTheEdgesOfTimesAndItems(t *testing.T) {
	edges := []int{math.MinInt, math.MinInt + 1, -1, 0, 1, math.MaxInt - 1, math.MaxInt}
	d := dice(9)
	edge := func() int { return edges[d.roll(len(edges))] }
	for range 40 {
		b := begin(9)
		wander(t, &d, b, 100, 40, 30, edge, func() api.Item { return api.Item{Key: edge(), ID: edge()} })
		for _, time := range edges {
			b.ask(t, time)
		}
	}
	b := of(t, ins(math.MinInt, x(4)), ins(math.MaxInt, x(2)), del(0))
	for _, row := range []struct {
		at   int
		want []api.Item
		name string
		view fuse.Views
	}{
		{math.MinInt, nil, "Ahead", b.past.Ahead(math.MinInt)}, {math.MinInt, items(4), "At", b.past.At(math.MinInt)},
		{math.MaxInt, nil, "Ahead", b.past.Ahead(math.MaxInt)}, {math.MaxInt, items(2), "At", b.past.At(math.MaxInt)},
	} {
		same(t, row.name, row.at, row.view, row.want)
	}
}

// ways are times in which operations come, n of them.
func ways(n int) map[string][]int {
	d := dice(n + 1)
	var up, down, inward, outward, heaps []int
	for i := range n {
		up = append(up, i)
		down = append(down, n-i)
		if i%2 == 0 {
			inward, outward = append(inward, i), append(outward, n+i)
		} else {
			inward, outward = append(inward, 2*n-i), append(outward, n-i)
		}
		heaps = append(heaps, i%16*n+i/16)
	}
	// Each one goes between the last two, as long as there is room.
	narrow, from, to := []int{0, 1 << 62}, 0, 1<<62
	for i := range min(n, 60) {
		mid := from + (to-from)/2
		narrow = append(narrow, mid)
		if i%3 == 0 {
			from = mid
		} else {
			to = mid
		}
	}
	return map[string][]int{"up": up, "down": down, "inward": inward, "outward": outward, "heaps": heaps, "narrow": narrow, "any": shuffled(&d, up)}
}

func TestTreesAreLowWhicheverWayTheyGrow(t *testing.T) {
	for _, n := range []int{0, 1, 2, 3, 4, 5, 8, 15, 16, 17, 100, 1500} {
		for name, times := range ways(n) {
			b := begin(len(times))
			for i, time := range times {
				if i%3 == 2 {
					b.past.Delete(time)
					b.plain.add(del(time))
				} else {
					b.past.Insert(time, x(i))
					b.plain.add(ins(time, x(i)))
				}
				b.low(t)
			}
			if b.grown(t); len(b.plain.ops) != len(times) {
				t.Fatalf("P14.3: %s: %d of %d operations", name, len(b.plain.ops), len(times))
			}
		}
	}
}

func TestTreesAreLowWhicheverWayTheyShrink(t *testing.T) {
	for _, n := range []int{1, 2, 3, 7, 33, 700} {
		for grown, times := range ways(n) {
			for _, gone := range ways(len(times)) {
				b := begin(len(times))
				for i, time := range times {
					b.past.Insert(time, x(i))
					b.plain.add(ins(time, x(i)))
				}
				for i, k := range gone {
					// Times in ways don't begin at 0, or not one by one: so they say which one of those that are left goes.
					time := b.plain.ops[k%len(b.plain.ops)].Time
					b.past.Revoke(time)
					b.plain.revoke(time)
					b.low(t)
					if i%64 == 0 {
						b.grown(t)
						b.ask(t, time)
					}
					if len(b.plain.ops) == 0 {
						break
					}
				}
				if b.grown(t); b.past.Len() != len(b.plain.ops) {
					t.Fatalf("P14.1: %s: Len %d; want %d", grown, b.past.Len(), len(b.plain.ops))
				}
			}
		}
	}
}

func TestRevokedAndAddedAgainAndAgain(t *testing.T) {
	b := begin(30)
	for i := range 30 {
		b.add(t, ins(10*i, x(100-i)))
	}
	for i := range 900 {
		time := 10 * (7 * i % 30)
		gone := b.plain.ops[7*i%30]
		o := gone
		b.revoke(t, o.Time)
		// At its own time, beside it, or at the far end, so that leaves without operations are met by others.
		switch i % 4 {
		case 0:
			o.Time = time + i%9
		case 1:
			o.Time = 1000 + i
		case 2:
			o.Time = -1000 - i
		}
		if i%5 == 0 {
			o = del(o.Time)
		}
		if b.add(t, o) != api.OK {
			b.add(t, gone)
		}
		b.holds(t)
		b.grown(t)
		b.ask(t, time)
		b.ask(t, o.Time)
	}
	b.all(t)
	for len(b.plain.ops) > 0 {
		b.revoke(t, b.plain.ops[len(b.plain.ops)/2].Time)
		b.all(t)
	}
	if b.past.Height() > 8 {
		t.Errorf("P14.3: Height %d of nothing", b.past.Height())
	}
	b.add(t, del(3))
	b.all(t)
}

// great checks a great past at some times: it is gone through once alone.
func great(t *testing.T, b both) {
	t.Helper()
	b.holds(t)
	b.grown(t)
	step := max(len(b.plain.ops)/40, 1)
	for i := 0; i < len(b.plain.ops); i += step {
		time := b.plain.ops[i].Time
		if got, want := b.past.At(time).Items(), run(b.plain.ops[:i+1]); !slices.Equal(got, want) {
			t.Fatalf("P14.2: At(%d) of %d operations: %d items; want %d", time, len(b.plain.ops), len(got), len(want))
		}
		if got, want := b.past.Ahead(time).Items(), run(b.plain.ops[:i]); !slices.Equal(got, want) {
			t.Fatalf("P14.2: Ahead(%d) of %d operations: %d items; want %d", time, len(b.plain.ops), len(got), len(want))
		}
	}
	same(t, "At", math.MaxInt, b.past.At(math.MaxInt), run(b.plain.ops))
}

func TestAGreatPast(t *testing.T) {
	const n = 4000
	b := begin(n)
	d := dice(3)
	for len(b.plain.ops) < n {
		time, y := d.roll(1<<40), api.Item{Key: d.roll(n) - n/2, ID: d.roll(1 << 40)}
		if d.roll(2) == 0 {
			b.add(t, ins(time, y))
		} else {
			b.add(t, del(time))
		}
		if len(b.plain.ops)%800 == 0 {
			great(t, b)
		}
	}
	for len(b.plain.ops) > 0 {
		for range n / 8 {
			b.revoke(t, b.plain.ops[d.roll(len(b.plain.ops))].Time)
		}
		great(t, b)
	}
}

// asked is the views of some times, and what they told when they were made.
type asked struct {
	views []fuse.Views
	want  [][]api.Item
}

// views are At and Ahead of all times of a past, and some more.
func (b both) views() asked {
	var a asked
	for _, o := range append(slices.Clone(b.plain.ops), del(math.MinInt), del(math.MaxInt)) {
		a.views = append(a.views, b.past.At(o.Time), b.past.Ahead(o.Time))
		a.want = append(a.want, run(b.plain.upTo(o.Time)), run(b.plain.before(o.Time)))
	}
	return a
}

func (a asked) hold(t *testing.T, what string) {
	t.Helper()
	for i, v := range a.views {
		if got := v.Items(); !slices.Equal(got, a.want[i]) || v.Len() != len(a.want[i]) {
			t.Fatalf("P14.2: %s: a view of %v is one of %v", what, a.want[i], got)
		}
	}
}

func TestViewsHoldTillTheNextEdit(t *testing.T) {
	d := dice(4)
	b := begin(20)
	for i := range 100 {
		b.add(t, ins(d.roll(30), x(i)))
		b.add(t, del(d.roll(30)))
		a := b.views()
		a.hold(t, "all views made")
		// Neither what is refused is an edit, nor what is asked.
		for _, o := range b.plain.ops {
			b.add(t, o)
			b.add(t, del(o.Time))
			if o.Insert {
				b.add(t, ins(99, o.Item))
			}
		}
		b.revoke(t, 50)
		a.hold(t, "refused edits")
		b.past.Ops()
		b.past.Height()
		b.past.Len()
		b.views().hold(t, "views again")
		a.hold(t, "what was asked")
		// An edit of another past isn't one of this.
		other := of(t, b.plain.ops...)
		other.revoke(t, b.plain.ops[0].Time)
		a.hold(t, "another past's edit")
		if i%2 == 0 {
			b.revoke(t, b.plain.ops[d.roll(len(b.plain.ops))].Time)
		}
	}
}

func TestRefusedEditsChangeNothing(t *testing.T) {
	b := of(t, ins(1, x(5)), del(2), ins(3, x(7)), ins(5, x(1)), del(8))
	b.revoke(t, 3)
	height := b.past.Height()
	for range 20 {
		for _, o := range []api.Op{ins(1, x(9)), del(1), ins(9, x(5)), ins(9, x(1))} {
			if b.add(t, o) == api.OK {
				t.Fatalf("P14.1: %v was added", o)
			}
		}
		for _, time := range []int{3, 4, -1} {
			b.revoke(t, time)
		}
		if b.past.Height() != height {
			t.Fatalf("P14.3: Height %d, and it was %d", b.past.Height(), height)
		}
		b.all(t)
		b.grown(t)
	}
}

func TestCallsOfViewsThatHoldNoMoreEnd(t *testing.T) {
	d := dice(8)
	b := begin(40)
	var old []fuse.Views
	for i := range 200 {
		b.add(t, ins(d.roll(60), x(i)))
		b.add(t, del(d.roll(60)))
		b.revoke(t, b.plain.ops[d.roll(len(b.plain.ops))].Time)
		old = append(old, b.past.At(d.roll(60)), b.past.Ahead(d.roll(60)), b.past.At(60))
		for _, v := range old[max(len(old)-20, 0):] {
			for k := -1; k <= v.Len(); k++ {
				v.At(k)
			}
			v.Min()
			v.Has(x(i))
			v.Items()
			v.Then(partial.New(1)).Then(nil)
		}
	}
	b.all(t)
}

func TestAnswersAreNewMemory(t *testing.T) {
	b := of(t, ins(4, x(5)), ins(2, x(7)), del(3), ins(1, x(9)))
	ops, kept := b.past.Ops(), b.past.Ops()
	for i := range ops {
		ops[i] = del(-9)
	}
	_ = append(ops, del(-8))
	left := b.past.At(4).Items()
	for i := range left {
		left[i] = x(-9)
	}
	_ = append(left, x(-8))
	b.all(t)
	want := slices.Clone(b.plain.ops)
	b.revoke(t, 4)
	b.add(t, ins(5, x(2)))
	if !slices.Equal(kept, want) {
		t.Errorf("P14.1: what Ops answered is %v, and was %v", kept, want)
	}
	b.all(t)
}

func TestAPastDependsOnItsOwnEditsAlone(t *testing.T) {
	a, b := begin(8), begin(8)
	for i := range 12 {
		a.add(t, ins(i, x(20-i)))
		b.add(t, del(i))
		a.add(t, del(30-i))
		b.add(t, ins(30-i, x(i)))
		a.revoke(t, i-2)
		b.revoke(t, 32-i)
		a.all(t)
		b.all(t)
		a.grown(t)
		b.grown(t)
	}
}

func TestTheOrderOfEditsAndWhatIsAskedDoNotMatter(t *testing.T) {
	d := dice(6)
	var ops []api.Op
	for i := range 60 {
		if i%5 < 2 {
			ops = append(ops, del(i))
		} else {
			ops = append(ops, ins(i, x(d.roll(1000)*60+i)))
		}
	}
	for round := range 40 {
		b := begin(60)
		for _, o := range shuffled(&d, ops) {
			b.add(t, o)
			if round%2 == 0 {
				b.ask(t, d.roll(62)-1)
			}
			// One that is revoked later on leaves no trace.
			if e := b.add(t, ins(o.Time+1000, x(-o.Time))); e == api.OK {
				b.ask(t, d.roll(62)-1)
				b.revoke(t, o.Time+1000)
			}
		}
		b.all(t)
		b.grown(t)
	}
}
