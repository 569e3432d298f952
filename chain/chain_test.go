package chain

import (
	"cmp"
	"math"
	"slices"
	"testing"

	"whilom/api"
	"whilom/shelf"
)

// x is an item of a key.
func x(key int) api.Item { return api.Item{Key: key, ID: -2 * key} }

// took is what a deletion takes, of a key; none is nothing.
func took(key int) api.Took { return api.Took{Found: true, Item: x(key)} }

var none = api.Took{}

// ins and del are operations.
func ins(time int, y api.Item) api.Op { return api.Op{Time: time, Insert: true, Item: y} }
func del(time int) api.Op             { return api.Op{Time: time} }

// items are those of some keys.
func items(keys ...int) []api.Item {
	var l []api.Item
	for _, k := range keys {
		l = append(l, x(k))
	}
	return l
}

// step, in and out are parts of reports.
func step(time int, old, now api.Took) api.Step { return api.Step{Time: time, Old: old, New: now} }
func in(keys ...int) api.Change                 { return api.Change{In: items(keys...)} }
func out(keys ...int) api.Change                { return api.Change{Out: items(keys...)} }

// dice is a row of numbers that looks random and is the same each time.
type dice uint64

func (d *dice) roll(n int) int {
	*d ^= *d << 13
	*d ^= *d >> 7
	*d ^= *d << 17
	return int(uint64(*d) % uint64(n))
}

// shuffled is a list in another order.
func shuffled[T any](d *dice, l []T) []T {
	l = slices.Clone(l)
	for i := range l {
		j := d.roll(i + 1)
		l[i], l[j] = l[j], l[i]
	}
	return l
}

// order orders items.
func order(y, z api.Item) int {
	return cmp.Or(cmp.Compare(y.Key, z.Key), cmp.Compare(y.ID, z.ID))
}

// told is what a run tells: what is left, and what each operation is about: an insertion's item, or what a deletion takes.
type told struct {
	left  []api.Item
	about []api.Took
}

// run goes through operations.
func run(ops []api.Op) told {
	var r told
	for _, o := range ops {
		about := api.Took{Found: o.Insert, Item: o.Item}
		if o.Insert {
			i, _ := slices.BinarySearchFunc(r.left, o.Item, order)
			r.left = slices.Insert(r.left, i, o.Item)
		} else if len(r.left) > 0 {
			about = api.Took{Found: true, Item: r.left[0]}
			r.left = r.left[1:]
		}
		r.about = append(r.about, about)
	}
	return r
}

// plain is what a chain is held against: operations in a list, in the order of time, that are run through each time.
type plain struct {
	capacity int
	ops      []api.Op
}

// place is where an operation of a time is, or would be.
func (p *plain) place(time int) (int, bool) {
	return slices.BinarySearchFunc(p.ops, time, func(o api.Op, time int) int { return cmp.Compare(o.Time, time) })
}

// add adds an operation, if it may be.
func (p *plain) add(o api.Op) api.Errno {
	i, taken := p.place(o.Time)
	twice := slices.ContainsFunc(p.ops, func(q api.Op) bool { return o.Insert && q.Insert && q.Item == o.Item })
	switch {
	case len(p.ops) >= p.capacity:
		return api.ErrFull
	case taken:
		return api.ErrTime
	case twice:
		return api.ErrArg
	}
	p.ops = slices.Insert(p.ops, i, o)
	return api.OK
}

// revoke revokes an operation, if there is one.
func (p *plain) revoke(time int) api.Errno {
	i, there := p.place(time)
	if !there {
		return api.ErrNone
	}
	p.ops = slices.Delete(p.ops, i, i+1)
	return api.OK
}

// move gives an operation another time, if it may be.
func (p *plain) move(time, to int) api.Errno {
	i, there := p.place(time)
	_, taken := p.place(to)
	switch {
	case !there:
		return api.ErrNone
	case taken && to != time:
		return api.ErrTime
	}
	o := p.ops[i]
	o.Time = to
	p.revoke(time)
	p.add(o)
	return api.OK
}

// upTo are the operations up to a time.
func (p *plain) upTo(time int) []api.Op {
	i, there := p.place(time)
	if there {
		i++
	}
	return p.ops[:i]
}

// without are the items of a list that another one, in order, doesn't have.
func without(l, m []api.Item) []api.Item {
	return slices.DeleteFunc(slices.Clone(l), func(y api.Item) bool {
		_, is := slices.BinarySearchFunc(m, y, order)
		return is
	})
}

// differ is the report of an edit that led from these operations to those of p; one that is at the time to now was at the time from.
func (p *plain) differ(ops []api.Op, from, to int) api.Report {
	a, b := run(ops), run(p.ops)
	before := &plain{ops: ops}
	r := api.Report{Change: api.Change{In: without(b.left, a.left), Out: without(a.left, b.left)}}
	for i, o := range p.ops {
		was := o.Time
		if was == to {
			was = from
		}
		j, there := before.place(was)
		if !o.Insert && there && !ops[j].Insert && a.about[j] != b.about[i] {
			r.Steps = append(r.Steps, step(o.Time, a.about[j], b.about[i]))
		}
	}
	return r
}

// same tells whether two reports tell the same.
func same(a, b api.Report) bool {
	return slices.Equal(a.In, b.In) && slices.Equal(a.Out, b.Out) && slices.Equal(a.Steps, b.Steps)
}

// pair is a chain, and what it is held against.
type pair struct {
	c *Chain
	p *plain
}

// begin is a chain without operations.
func begin(capacity int) pair {
	return pair{New(capacity), &plain{capacity: min(max(capacity, 0), api.MaxOps)}}
}

// made is a chain of operations, which are added in the order of the list.
func made(t *testing.T, ops ...api.Op) pair {
	t.Helper()
	b := begin(len(ops) + 4)
	for _, o := range ops {
		if e := b.add(t, o); e != api.OK {
			t.Fatalf("P15.1: %v can't be added: %v", o, e)
		}
	}
	return b
}

// judge checks what an edit answered, that led from these operations to what there is now.
func (b pair) judge(t *testing.T, name string, ops []api.Op, from, to int, r api.Report, e, want api.Errno) {
	t.Helper()
	if e != want {
		t.Fatalf("P15.1: %s of %v: %v; want %v", name, ops, e, want)
	}
	should := b.p.differ(ops, from, to)
	if !same(r, should) {
		t.Fatalf("P15.1: %s of %v: %v; want %v", name, ops, r, should)
	}
	// Nothing but a move lets one item in and another one out.
	if len(r.In) > 1 || len(r.Out) > 1 || from == to && len(r.In)+len(r.Out) > 1 {
		t.Fatalf("P15.1: %s of %v: %v", name, ops, r.Change)
	}
}

// add adds an operation to both, if they say the same.
func (b pair) add(t *testing.T, o api.Op) api.Errno {
	t.Helper()
	ops := slices.Clone(b.p.ops)
	want := b.p.add(o)
	r, e := enter(b.c, o)
	b.judge(t, "an addition", ops, 0, 0, r, e, want)
	return want
}

// enter adds an operation to a chain.
func enter(c *Chain, o api.Op) (api.Report, api.Errno) {
	if o.Insert {
		return c.Insert(o.Time, o.Item)
	}
	return c.Delete(o.Time)
}

// revoke revokes an operation of both, if they say the same.
func (b pair) revoke(t *testing.T, time int) api.Errno {
	t.Helper()
	ops := slices.Clone(b.p.ops)
	want := b.p.revoke(time)
	r, e := b.c.Revoke(time)
	b.judge(t, "Revoke", ops, 0, 0, r, e, want)
	return want
}

// move gives an operation of both another time, if they say the same.
func (b pair) move(t *testing.T, time, to int) api.Errno {
	t.Helper()
	ops := slices.Clone(b.p.ops)
	want := b.p.move(time, to)
	r, e := b.c.Move(time, to)
	if e != api.OK {
		// A refused one has moved nothing.
		to = time
	}
	b.judge(t, "Move", ops, time, to, r, e, want)
	return want
}

// holds checks what a chain tells of its deletions and items, and what it has written down of them.
func (b pair) holds(t *testing.T) {
	t.Helper()
	r := run(b.p.ops)
	var eaten []meal
	alive := map[api.Item]life{}
	for i, o := range b.p.ops {
		got, ok := b.c.Took(o.Time)
		if o.Insert {
			alive[o.Item] = life{shelf.Of(o.Item), o.Time}
			if ok || got != none {
				t.Fatalf("P15.2: Took(%d) of an insertion: %v, %v", o.Time, got, ok)
			}
			continue
		}
		if !ok || got != r.about[i] {
			t.Fatalf("P15.2: %v: Took(%d): %v, %v; want %v", b.p.ops, o.Time, got, ok, r.about[i])
		}
		m := mealAt(o.Time)
		if y := r.about[i]; y.Found {
			m.Took, m.since = y, alive[y.Item].since
			alive[y.Item] = life{shelf.Slot{Item: y.Item, Eaten: true, Time: o.Time}, m.since}
		}
		eaten = append(eaten, m)
	}
	var lives []life
	for y, l := range alive {
		if time, ok := b.c.Eater(y); ok != l.Eaten || time != l.Time {
			t.Fatalf("P15.2: %v: Eater(%v): %d, %v; want %d, %v", b.p.ops, y, time, ok, l.Time, l.Eaten)
		}
		lives = append(lives, l)
	}
	slices.SortFunc(lives, func(k, l life) int { return order(k.Item, l.Item) })
	if got := b.c.lives.All(); !slices.Equal(got, lives) {
		t.Fatalf("P15.2: %v: lives %v; want %v", b.p.ops, got, lives)
	}
	if got := b.c.meals.All(); !slices.Equal(got, eaten) {
		t.Fatalf("P15.2: %v: meals %v; want %v", b.p.ops, got, eaten)
	}
}

// ask checks what is told of a time, at which there may be no operation.
func (b pair) ask(t *testing.T, time int) {
	t.Helper()
	want := run(b.p.upTo(time)).left
	v := b.c.At(time)
	if got := v.Items(); !slices.Equal(got, want) || v.Len() != len(want) {
		t.Fatalf("P15.3: %v: At(%d): %v, Len %d; want %v", b.p.ops, time, got, v.Len(), want)
	}
	if got, ok := v.Min(); ok != (len(want) > 0) || ok && got != want[0] {
		t.Fatalf("P15.3: %v: At(%d): Min %v, %v; want one of %v", b.p.ops, time, got, ok, want)
	}
	if i, there := b.p.place(time); there && !b.p.ops[i].Insert {
		return
	}
	if got, ok := b.c.Took(time); ok || got != none {
		t.Fatalf("P15.2: %v: Took(%d): %v, %v; there is no deletion", b.p.ops, time, got, ok)
	}
}

// queued checks the queue of all operations.
func (b pair) queued(t *testing.T) {
	t.Helper()
	q, r := b.c.Queue(), run(b.p.ops)
	deletes, excess := 0, 0
	for i, o := range b.p.ops {
		if !o.Insert {
			deletes++
		}
		if !r.about[i].Found {
			excess++
		}
	}
	if got := q.Ops(); !slices.Equal(got, b.p.ops) || q.Len() != len(b.p.ops) {
		t.Fatalf("P15.3: the queue has %v, Len %d; want %v", got, q.Len(), b.p.ops)
	}
	if q.Deletes() != deletes || q.Excess() != excess {
		t.Fatalf("P15.3: %v: the queue has Deletes %d, Excess %d; want %d, %d", b.p.ops, q.Deletes(), q.Excess(), deletes, excess)
	}
	if got := shelf.Items(q.Present()); !slices.Equal(got, r.left) {
		t.Fatalf("P15.3: %v: the queue's present is %v; want %v", b.p.ops, got, r.left)
	}
}

// all checks all that a chain tells: at, beside and between all times, and beyond them.
func (b pair) all(t *testing.T) {
	t.Helper()
	b.holds(t)
	b.queued(t)
	for _, o := range b.p.ops {
		for _, time := range []int{o.Time - 1, o.Time, o.Time + 1} {
			b.ask(t, time)
		}
		if !o.Insert {
			continue
		}
		for _, y := range []api.Item{{Key: o.Item.Key + 1, ID: o.Item.ID}, {Key: o.Item.Key, ID: o.Item.ID + 1}, {Key: o.Item.Key, ID: o.Item.ID - 1}} {
			b.stranger(t, y)
		}
	}
	b.ask(t, math.MinInt)
	b.ask(t, math.MaxInt)
}

// stranger checks that an item that isn't there has no eater.
func (b pair) stranger(t *testing.T, y api.Item) {
	t.Helper()
	if slices.ContainsFunc(b.p.ops, func(o api.Op) bool { return o.Insert && o.Item == y }) {
		return
	}
	if time, ok := b.c.Eater(y); ok || time != 0 {
		t.Fatalf("P15.2: %v: Eater(%v): %d, %v; it isn't there", b.p.ops, y, time, ok)
	}
}

var edges = []int{math.MinInt, math.MinInt + 1, -1, 0, 1, math.MaxInt - 1, math.MaxInt}

func TestANewChainHasNothing(t *testing.T) {
	for _, capacity := range []int{math.MinInt, -1, 0, 1, 100, api.MaxOps, api.MaxOps + 1, math.MaxInt} {
		b := begin(capacity)
		for _, time := range edges {
			b.ask(t, time)
			b.revoke(t, time)
			for _, to := range edges {
				b.move(t, time, to)
				b.stranger(t, api.Item{Key: time, ID: to})
			}
		}
		b.all(t)
	}
}

func TestTheChaptersExample(t *testing.T) {
	c := New(3)
	if r, e := c.Insert(1, x(5)); e != api.OK || !same(r, api.Report{Change: in(5)}) {
		t.Errorf("P15.1: Insert 5 at 1: %v, %v", r, e)
	}
	if r, e := c.Delete(4); e != api.OK || !same(r, api.Report{Change: out(5)}) {
		t.Errorf("P15.1: Delete at 4: %v, %v", r, e)
	}
	r, e := c.Insert(3, x(3))
	if want := (api.Report{Change: in(5), Steps: []api.Step{step(4, took(5), took(3))}}); e != api.OK || !same(r, want) {
		t.Errorf("P15.1: Insert 3 at 3: %v, %v; want %v", r, e, want)
	}
	if got, ok := c.Took(4); !ok || got != took(3) {
		t.Errorf("P15.2: Took(4): %v, %v", got, ok)
	}
	if time, ok := c.Eater(x(3)); !ok || time != 4 {
		t.Errorf("P15.2: Eater of 3: %d, %v", time, ok)
	}
	if time, ok := c.Eater(x(5)); ok || time != 0 {
		t.Errorf("P15.2: Eater of 5: %d, %v", time, ok)
	}
	if got := shelf.Items(c.Queue().Present()); !slices.Equal(got, items(5)) {
		t.Errorf("P15.3: the present: %v", got)
	}
}

// edit is one of a chain; to is where it moves to.
type edit struct {
	kind int
	op   api.Op
	to   int
}

// does makes an edit.
func (e edit) does(c *Chain) (api.Report, api.Errno) {
	switch e.kind {
	case api.EditAdd:
		return enter(c, e.op)
	case api.EditRevoke:
		return c.Revoke(e.op.Time)
	default:
		return c.Move(e.op.Time, e.to)
	}
}

func insert(time, key int) edit { return edit{api.EditAdd, ins(time, x(key)), 0} }
func remove(time int) edit      { return edit{api.EditAdd, del(time), 0} }
func revoke(time int) edit      { return edit{api.EditRevoke, del(time), 0} }
func move(time, to int) edit    { return edit{api.EditMove, del(time), to} }

// row is an edit, and what its report must be.
type row struct {
	does   edit
	change api.Change
	steps  []api.Step
}

// byHand makes each row's edit in a chain of its own of these operations.
func byHand(t *testing.T, ops []api.Op, rows []row) {
	t.Helper()
	for _, row := range rows {
		b := made(t, ops...)
		r, e := row.does.does(b.c)
		if want := (api.Report{Change: row.change, Steps: row.steps}); e != api.OK || !same(r, want) {
			t.Errorf("P15.1: %v: %v, %v; want %v", row.does, r, e, want)
		}
		for _, s := range row.steps {
			if got, ok := b.c.Took(s.Time); !ok || got != s.New {
				t.Errorf("P15.2: %v: Took(%d): %v, %v; want %v", row.does, s.Time, got, ok, s.New)
			}
			if time, ok := b.c.Eater(s.New.Item); s.New.Found && (!ok || time != s.Time) {
				t.Errorf("P15.2: %v: Eater(%v): %d, %v; want %d", row.does, s.New.Item, time, ok, s.Time)
			}
		}
		for _, y := range row.change.In {
			if time, ok := b.c.Eater(y); ok || time != 0 {
				t.Errorf("P15.2: %v: Eater(%v): %d, %v; it is in the present", row.does, y, time, ok)
			}
		}
	}
}

func TestEditsByHand(t *testing.T) {
	nothing := api.Change{}
	// The deletion at 30 takes 3, the one at 50 takes 5; 8 is left.
	byHand(t, []api.Op{ins(10, x(5)), ins(20, x(3)), del(30), ins(40, x(8)), del(50)}, []row{
		{insert(5, 1), in(5), []api.Step{step(30, took(3), took(1)), step(50, took(5), took(3))}},
		{insert(25, 4), in(5), []api.Step{step(50, took(5), took(4))}},
		{insert(45, 4), in(5), []api.Step{step(50, took(5), took(4))}},
		{insert(0, 9), in(9), nil},
		{insert(60, 1), in(1), nil},
		{remove(0), nothing, nil},
		{remove(15), out(8), []api.Step{step(50, took(5), took(8))}},
		{remove(25), out(8), []api.Step{step(30, took(3), took(5)), step(50, took(5), took(8))}},
		{remove(45), out(8), []api.Step{step(50, took(5), took(8))}},
		{remove(35), out(8), []api.Step{step(50, took(5), took(8))}},
		{remove(60), out(8), nil},
		{revoke(10), out(8), []api.Step{step(50, took(5), took(8))}},
		{revoke(20), out(8), []api.Step{step(30, took(3), took(5)), step(50, took(5), took(8))}},
		{revoke(30), in(5), []api.Step{step(50, took(5), took(3))}},
		{revoke(40), out(8), nil},
		{revoke(50), in(5), nil},
		{move(10, 25), nothing, nil},
		{move(10, 35), nothing, nil},
		{move(10, 60), api.Change{In: items(5), Out: items(8)}, []api.Step{step(50, took(5), took(8))}},
		{move(20, 5), nothing, nil},
		{move(20, 35), nothing, []api.Step{step(30, took(3), took(5)), step(50, took(5), took(3))}},
		{move(20, 45), nothing, []api.Step{step(30, took(3), took(5)), step(50, took(5), took(3))}},
		{move(20, 60), api.Change{In: items(3), Out: items(8)}, []api.Step{step(30, took(3), took(5)), step(50, took(5), took(8))}},
		{move(30, 0), in(5), []api.Step{step(0, took(3), none), step(50, took(5), took(3))}},
		{move(30, 15), nothing, []api.Step{step(15, took(3), took(5)), step(50, took(5), took(3))}},
		{move(30, 25), nothing, nil},
		{move(30, 45), nothing, nil},
		{move(30, 60), nothing, []api.Step{step(50, took(5), took(3)), step(60, took(3), took(5))}},
		{move(30, 30), nothing, nil},
		{move(40, 5), nothing, nil},
		{move(40, 60), nothing, nil},
		{move(40, 40), nothing, nil},
		{move(50, 0), in(5), []api.Step{step(0, took(5), none)}},
		{move(50, 15), nothing, nil},
		{move(50, 25), nothing, []api.Step{step(25, took(5), took(3)), step(30, took(3), took(5))}},
		{move(50, 35), nothing, nil},
		{move(50, 60), nothing, nil},
	})
	// The deletion at 30 takes 5; those at 10 and 40 find nothing.
	byHand(t, []api.Op{del(10), ins(20, x(5)), del(30), del(40)}, []row{
		{insert(0, 3), nothing, []api.Step{step(10, none, took(3))}},
		{insert(0, 9), nothing, []api.Step{step(10, none, took(9))}},
		{insert(15, 3), nothing, []api.Step{step(30, took(5), took(3)), step(40, none, took(5))}},
		{insert(25, 7), nothing, []api.Step{step(40, none, took(7))}},
		{insert(50, 7), in(7), nil},
		{remove(0), nothing, nil},
		{remove(25), nothing, []api.Step{step(30, took(5), none)}},
		{remove(35), nothing, nil},
		{revoke(10), nothing, nil},
		{revoke(20), nothing, []api.Step{step(30, took(5), none)}},
		{revoke(30), nothing, []api.Step{step(40, none, took(5))}},
		{revoke(40), nothing, nil},
		{move(20, 5), nothing, []api.Step{step(10, none, took(5)), step(30, took(5), none)}},
		{move(20, 35), nothing, []api.Step{step(30, took(5), none), step(40, none, took(5))}},
		{move(20, 50), in(5), []api.Step{step(30, took(5), none)}},
		{move(10, 25), nothing, []api.Step{step(25, none, took(5)), step(30, took(5), none)}},
		{move(10, 35), nothing, nil},
		{move(10, 50), nothing, nil},
		{move(30, 15), nothing, []api.Step{step(15, took(5), none), step(40, none, took(5))}},
		{move(30, 50), nothing, []api.Step{step(40, none, took(5)), step(50, took(5), none)}},
		{move(40, 25), nothing, []api.Step{step(25, none, took(5)), step(30, took(5), none)}},
		{move(40, 15), nothing, nil},
	})
	// The deletion at 30 takes 4: 2 comes too late, and is left beside 6 and 9.
	byHand(t, []api.Op{ins(0, x(9)), ins(10, x(6)), ins(20, x(4)), del(30), ins(40, x(2))}, []row{
		{move(40, 25), api.Change{In: items(4), Out: items(2)}, []api.Step{step(30, took(4), took(2))}},
		{move(30, 50), api.Change{In: items(4), Out: items(2)}, []api.Step{step(50, took(4), took(2))}},
		{move(30, 15), api.Change{In: items(4), Out: items(6)}, []api.Step{step(15, took(4), took(6))}},
		{move(30, 5), api.Change{In: items(4), Out: items(9)}, []api.Step{step(5, took(4), took(9))}},
		{move(30, -5), in(4), []api.Step{step(-5, took(4), none)}},
		{move(20, 45), api.Change{In: items(4), Out: items(6)}, []api.Step{step(30, took(4), took(6))}},
		{move(20, -5), nothing, nil},
		{revoke(20), out(6), []api.Step{step(30, took(4), took(6))}},
		{remove(45), out(2), nil},
		{remove(35), out(6), nil},
		{remove(5), out(9), nil},
	})
}

func TestErrorsInTheirOrder(t *testing.T) {
	b := made(t, ins(1, x(5)), del(2), ins(3, x(7)))
	y := x(9)
	for _, row := range []struct {
		name string
		does edit
		want api.Errno
	}{
		{"an insertion's time", edit{api.EditAdd, ins(1, y), 0}, api.ErrTime}, {"a deletion's", edit{api.EditAdd, ins(2, y), 0}, api.ErrTime},
		{"a time ahead of an item", edit{api.EditAdd, ins(3, x(5)), 0}, api.ErrTime}, {"its own item and time", edit{api.EditAdd, ins(1, x(5)), 0}, api.ErrTime},
		{"an item that is there", insert(4, 7), api.ErrArg}, {"one that is taken", insert(4, 5), api.ErrArg}, {"one ahead of it", insert(0, 7), api.ErrArg},
		{"a deletion at an insertion's time", remove(1), api.ErrTime}, {"at a deletion's", remove(2), api.ErrTime},
		{"nothing to revoke", revoke(0), api.ErrNone}, {"behind all", revoke(4), api.ErrNone}, {"at the edges", revoke(math.MinInt), api.ErrNone}, {"of times", revoke(math.MaxInt), api.ErrNone},
		{"nothing to move", move(0, 9), api.ErrNone}, {"to its own time", move(4, 4), api.ErrNone}, {"to another one's time", move(4, 3), api.ErrNone},
		{"an insertion to a deletion's time", move(1, 2), api.ErrTime}, {"to an insertion's", move(1, 3), api.ErrTime},
		{"a deletion to an insertion's time", move(2, 1), api.ErrTime}, {"to a later one's", move(2, 3), api.ErrTime},
	} {
		r, e := row.does.does(b.c)
		if e != row.want || !same(r, api.Report{}) {
			t.Errorf("P15.1: %s: %v, %v; want %v", row.name, r, e, row.want)
		}
		b.all(t)
	}
	for i := range 4 {
		b.add(t, del(10+i))
	}
	for _, o := range []api.Op{ins(1, y), ins(99, x(5)), ins(1, x(5)), ins(99, y), del(1), del(99)} {
		if r, e := enter(b.c, o); e != api.ErrFull || !same(r, api.Report{}) {
			t.Errorf("P15.1: %v added to a full chain: %v, %v; want %v", o, r, e, api.ErrFull)
		}
		b.all(t)
	}
	// What is moved needs no room.
	if b.move(t, 1, 50) != api.OK || b.move(t, 2, 51) != api.OK || b.move(t, 50, 0) != api.OK {
		t.Error("P15.1: moved in a full chain")
	}
	b.all(t)
	// One of its key, or of its ID, isn't the item.
	b = made(t, ins(1, api.Item{Key: 5, ID: 2}))
	b.add(t, ins(2, api.Item{Key: 5, ID: 3}))
	b.add(t, ins(3, api.Item{Key: 4, ID: 2}))
	b.add(t, ins(4, api.Item{Key: 5, ID: 2}))
	b.add(t, del(5))
	b.add(t, del(6))
	b.all(t)
}

func TestThereIsRoomForCapacityOperations(t *testing.T) {
	for _, capacity := range []int{math.MinInt, -5, -1, 0, 1, 2, 3, 10, 33} {
		b := begin(capacity)
		for i := range 40 {
			b.add(t, ins(7*i%40, x(i)))
			b.add(t, del(100+7*i%40))
		}
		b.all(t)
		// What is revoked leaves room for one: no more, and no less, however often.
		for i := range 40 {
			b.revoke(t, 7*i%40)
			b.add(t, ins(200+i, x(100+i)))
			b.add(t, ins(300+i, x(200+i)))
			b.move(t, 200+i, -200-i)
		}
		b.all(t)
	}
}

// timelines are all of n operations at the times 0, 10 .. that differ: deletions, and insertions of the keys 10, 20 .. in whichever order.
func timelines(n int) [][]api.Op {
	lists := [][]api.Op{nil}
	for i := range n {
		var longer [][]api.Op
		for _, l := range lists {
			longer = append(longer, append(slices.Clone(l), del(10*i)))
			keys := 0
			for _, o := range l {
				if o.Insert {
					keys++
				}
			}
			// The new key is put between those that are there, which are numbered anew.
			for k := range keys + 1 {
				m := slices.Clone(l)
				for j := range m {
					if m[j].Insert && m[j].Item.Key >= 10*(k+1) {
						m[j].Item = x(m[j].Item.Key + 10)
					}
				}
				longer = append(longer, append(m, ins(10*i, x(10*(k+1)))))
			}
		}
		lists = longer
	}
	return lists
}

// orders are all orders of a list.
func orders(l []api.Op) [][]api.Op {
	if len(l) == 0 {
		return [][]api.Op{nil}
	}
	var all [][]api.Op
	for i, o := range l {
		for _, rest := range orders(slices.Delete(slices.Clone(l), i, i+1)) {
			all = append(all, append(rest, o))
		}
	}
	return all
}

func TestAllOrdersOfAllShortTimelines(t *testing.T) {
	for n := range 6 {
		for _, ops := range timelines(n) {
			for _, l := range orders(ops) {
				made(t, l...).all(t)
			}
		}
	}
}

func TestAllEditsOfAllShortTimelines(t *testing.T) {
	d := dice(15)
	for n := range 7 {
		for _, ops := range timelines(n) {
			b := made(t, shuffled(&d, ops)...)
			for _, o := range ops {
				b.revoke(t, o.Time)
				b.holds(t)
				b.add(t, o)
				b.holds(t)
			}
			for i := range n + 1 {
				time := 10*i - 5
				b.add(t, del(time))
				b.holds(t)
				b.revoke(t, time)
				b.holds(t)
				for k := range n + 1 {
					b.add(t, ins(time, x(10*k+5)))
					b.holds(t)
					b.revoke(t, time)
				}
			}
			b.all(t)
		}
	}
}

func TestAllMovesInAllShortTimelines(t *testing.T) {
	d := dice(16)
	for n := range 7 {
		for _, ops := range timelines(n) {
			b := made(t, shuffled(&d, ops)...)
			for _, o := range ops {
				for i := range n + 1 {
					time := 10*i - 5
					b.move(t, o.Time, time)
					b.holds(t)
					if n < 5 {
						b.all(t)
					}
					b.move(t, time, o.Time)
					b.holds(t)
				}
			}
			b.all(t)
		}
	}
}

func TestAllOfAShortTimelineIsRevokedInAllOrders(t *testing.T) {
	ops := []api.Op{ins(1, x(4)), ins(2, x(1)), del(3), ins(4, x(2)), del(5), ins(6, x(3)), del(7)}
	for i, l := range orders(ops) {
		b := made(t, ops...)
		for j, o := range l {
			b.revoke(t, o.Time)
			b.holds(t)
			// Others take the places of those that were revoked.
			if i%3 == 0 {
				b.add(t, ins(10*o.Time+j, o.Item))
			}
		}
		b.all(t)
	}
}

// back is the edit that takes an edit back that was made of an operation.
func (e edit) back(o api.Op) edit {
	switch e.kind {
	case api.EditAdd:
		return edit{api.EditRevoke, e.op, 0}
	case api.EditRevoke:
		return edit{api.EditAdd, o, 0}
	default:
		return edit{api.EditMove, del(e.to), e.op.Time}
	}
}

// reverse is the report of an edit that takes back what was reported, of a move with the moved deletion's times.
func reverse(r api.Report, time, to int) api.Report {
	v := api.Report{Change: api.Change{In: r.Out, Out: r.In}}
	for _, s := range r.Steps {
		if s.Time == to {
			s.Time = time
		}
		v.Steps = append(v.Steps, step(s.Time, s.New, s.Old))
	}
	slices.SortFunc(v.Steps, func(a, b api.Step) int { return cmp.Compare(a.Time, b.Time) })
	return v
}

func TestWhatIsTakenBackIsReportedTheOtherWay(t *testing.T) {
	d := dice(77)
	for range 60 {
		b := begin(40)
		for i := range 30 {
			b.add(t, ins(d.roll(200), x(d.roll(20)*30+i)))
			b.add(t, del(d.roll(200)))
		}
		for i := range 100 {
			o := b.p.ops[d.roll(len(b.p.ops))]
			e := edit{kind: 1 + d.roll(3), op: o}
			switch e.kind {
			case api.EditAdd:
				if e.op = ins(d.roll(200), x(d.roll(600)-1000-i)); i%2 == 0 {
					e.op = del(e.op.Time)
				}
			case api.EditMove:
				e.to = d.roll(200)
			}
			before := slices.Clone(b.p.ops)
			r, errno := e.does(b.c)
			if errno != api.OK {
				continue
			}
			s, errno := e.back(o).does(b.c)
			time, to := 0, 0
			if e.kind == api.EditMove {
				time, to = e.op.Time, e.to
			}
			if want := reverse(r, time, to); errno != api.OK || !same(s, want) {
				t.Fatalf("P15.1: %v of %v: %v; taken back: %v, %v; want %v", e, before, r, s, errno, want)
			}
		}
		b.all(t)
	}
}

// wander makes edits that look random: of a hundred, so many add an insertion, so many a deletion, so many move, and the others revoke; now and then it asks.
func wander(t *testing.T, d *dice, b pair, edits, inserts, deletes, moves int, time func() int, y func() api.Item) {
	t.Helper()
	// Most of what is revoked or moved is there.
	there := func() int {
		if len(b.p.ops) == 0 || d.roll(8) == 0 {
			return time()
		}
		return b.p.ops[d.roll(len(b.p.ops))].Time
	}
	for i := range edits {
		switch kind := d.roll(100); {
		case kind < inserts:
			b.add(t, ins(time(), y()))
		case kind < inserts+deletes:
			b.add(t, del(time()))
		case kind < inserts+deletes+moves:
			b.move(t, there(), time())
		default:
			b.revoke(t, there())
		}
		b.holds(t)
		b.ask(t, time())
		b.stranger(t, y())
		if i%32 == 0 {
			b.all(t)
		}
	}
	b.all(t)
}

func TestLongWalks(t *testing.T) {
	d := dice(20261120)
	for _, capacity := range []int{1, 3, 10, 40, 120} {
		for _, mix := range []struct{ inserts, deletes, moves int }{{25, 20, 30}, {35, 30, 0}, {35, 15, 30}, {15, 35, 30}, {50, 5, 30}, {5, 50, 30}, {15, 15, 60}} {
			time := func() int { return d.roll(2*capacity) - capacity }
			y := func() api.Item { return api.Item{Key: d.roll(capacity) - capacity/2, ID: d.roll(4) - 2} }
			wander(t, &d, begin(capacity), 500, mix.inserts, mix.deletes, mix.moves, time, y)
		}
	}
}

func TestTheEdgesOfTimesAndItems(t *testing.T) {
	d := dice(9)
	edge := func() int { return edges[d.roll(len(edges))] }
	for range 60 {
		b := begin(9)
		wander(t, &d, b, 150, 30, 20, 30, edge, func() api.Item { return api.Item{Key: edge(), ID: edge()} })
		for _, time := range edges {
			b.ask(t, time)
		}
	}
	greatest, least := api.Item{Key: math.MaxInt, ID: math.MaxInt}, api.Item{Key: math.MinInt, ID: math.MinInt}
	b := made(t, ins(math.MinInt, greatest), del(math.MaxInt), del(0), ins(1, least))
	b.all(t)
	b.move(t, 1, -1)
	b.all(t)
	b.move(t, math.MinInt, math.MaxInt-1)
	b.all(t)
	b.move(t, math.MaxInt, math.MinInt)
	b.all(t)
	b.move(t, 0, math.MaxInt)
	b.all(t)
	b.move(t, math.MaxInt, -5)
	b.all(t)
	b.revoke(t, -1)
	b.all(t)
}

func TestTheItemWithoutKeyAndIDIsOneAsOthers(t *testing.T) {
	zero := api.Item{}
	b := made(t, ins(10, zero), del(20), del(30))
	b.all(t)
	b.move(t, 10, 25)
	b.all(t)
	b.add(t, ins(5, x(1)))
	b.all(t)
	b.revoke(t, 25)
	b.all(t)
	b.add(t, ins(40, zero))
	b.all(t)
	b.move(t, 30, 50)
	b.all(t)
	b.revoke(t, 20)
	b.all(t)
}

func TestRefusedEditsChangeNothing(t *testing.T) {
	b := made(t, ins(1, x(5)), del(2), ins(3, x(7)), ins(5, x(1)), del(8), del(9))
	b.revoke(t, 3)
	v, q := b.c.At(5), b.c.Queue()
	for range 20 {
		for _, o := range []api.Op{ins(1, x(9)), del(1), ins(10, x(5)), ins(10, x(1))} {
			if b.add(t, o) == api.OK {
				t.Fatalf("P15.4: %v was added", o)
			}
		}
		for _, time := range []int{3, 4, -1} {
			b.revoke(t, time)
			b.move(t, time, 20)
			b.move(t, time, 2)
		}
		for _, o := range b.p.ops {
			for _, p := range b.p.ops {
				b.move(t, o.Time, p.Time)
			}
		}
		// What was answered ahead of them holds, too.
		if got := v.Items(); !slices.Equal(got, items(1)) || !slices.Equal(q.Ops(), b.p.ops) {
			t.Fatalf("P15.4: a view tells %v, a queue %v", got, q.Ops())
		}
		b.all(t)
	}
}

func TestAMoveToItsOwnTimeChangesNothing(t *testing.T) {
	d := dice(12)
	b := begin(30)
	for i := range 15 {
		b.add(t, ins(d.roll(100), x(d.roll(50)*20+i)))
		b.add(t, del(d.roll(100)))
		for _, o := range b.p.ops {
			if r, e := b.c.Move(o.Time, o.Time); e != api.OK || !same(r, api.Report{}) {
				t.Fatalf("P15.1: Move of %v to its own time: %v, %v", o, r, e)
			}
		}
		b.all(t)
	}
}

func TestAnswersAreNewMemory(t *testing.T) {
	b := begin(20)
	var reports, kept []api.Report
	keep := func(r api.Report, _ api.Errno) {
		reports = append(reports, r)
		kept = append(kept, api.Report{Change: api.Change{In: slices.Clone(r.In), Out: slices.Clone(r.Out)}, Steps: slices.Clone(r.Steps)})
	}
	spoil := func(r api.Report) {
		for _, l := range [][]api.Item{r.In, r.Out} {
			for i := range l {
				l[i] = x(-99)
			}
			_ = append(l, x(-98))
		}
		for i := range r.Steps {
			r.Steps[i] = step(-99, took(-99), took(-99))
		}
		_ = append(r.Steps, step(-98, none, none))
	}
	edits := []edit{insert(10, 5), remove(40), insert(20, 3), remove(15), insert(5, 9), move(5, 50), remove(60), move(15, 70), insert(0, 1), move(40, 7), move(0, 80), revoke(20), move(70, 1), revoke(7), revoke(80), revoke(1)}
	for round := range 2 {
		for _, e := range edits {
			keep(e.does(b.c))
			if round == 1 {
				spoil(reports[len(reports)-1])
			}
		}
		for i, r := range reports {
			if round == 0 && !same(r, kept[i]) {
				t.Errorf("P15.4: the report %d is %v, and was %v", i, r, kept[i])
			}
		}
		for _, o := range b.c.Queue().Ops() {
			b.c.Revoke(o.Time)
		}
	}
	// What was spoilt in the second round didn't matter to what was answered then.
	for i := range edits {
		if !same(kept[i], kept[i+len(edits)]) {
			t.Errorf("P15.4: the report %d is %v, and was %v", i, kept[i+len(edits)], kept[i])
		}
	}
	b.all(t)
}

func TestViewsAndQueueHoldTillTheNextEdit(t *testing.T) {
	d := dice(4)
	b := begin(20)
	for i := range 60 {
		b.add(t, ins(d.roll(30), x(i)))
		b.add(t, del(d.roll(30)))
		b.move(t, b.p.ops[d.roll(len(b.p.ops))].Time, d.roll(40)-5)
		q := b.c.Queue()
		v, w := b.c.At(12), b.c.At(29)
		// Neither what is asked is an edit, nor one of another chain.
		other := made(t, b.p.ops...)
		other.revoke(t, b.p.ops[0].Time)
		other.move(t, b.p.ops[1].Time, 99)
		b.all(t)
		if got, want := v.Items(), run(b.p.upTo(12)).left; !slices.Equal(got, want) {
			t.Fatalf("P15.3: a view of At(12): %v; want %v", got, want)
		}
		if got, want := w.Items(), run(b.p.upTo(29)).left; !slices.Equal(got, want) {
			t.Fatalf("P15.3: a view of At(29): %v; want %v", got, want)
		}
		if got := q.Ops(); !slices.Equal(got, b.p.ops) {
			t.Fatalf("P15.3: the queue has %v; want %v", got, b.p.ops)
		}
		if i%2 == 0 {
			b.revoke(t, b.p.ops[d.roll(len(b.p.ops))].Time)
		}
	}
}

func TestCallsOfViewsThatHoldNoMoreEnd(t *testing.T) {
	d := dice(8)
	b := begin(40)
	for i := range 200 {
		v, w := b.c.At(d.roll(60)), b.c.At(60)
		b.add(t, ins(d.roll(60), x(i)))
		b.add(t, del(d.roll(60)))
		b.revoke(t, b.p.ops[d.roll(len(b.p.ops))].Time)
		for k := -1; k <= v.Len(); k++ {
			v.At(k)
			w.At(k)
		}
		v.Then(b.c.Queue()).Items()
		w.Min()
		w.Has(x(i))
	}
	b.all(t)
}

func TestTheOrderOfEditsDoesNotMatter(t *testing.T) {
	d := dice(6)
	var ops []api.Op
	for i := range 60 {
		if i%5 < 2 {
			ops = append(ops, del(i))
		} else {
			ops = append(ops, ins(i, x(d.roll(1000)*60+i)))
		}
	}
	for range 40 {
		b := begin(61)
		for _, o := range shuffled(&d, ops) {
			// One that comes from elsewhere, and one that is revoked later on, leave no trace.
			away := o
			away.Time += 1000 - 2000*d.roll(2)
			b.add(t, away)
			if e := b.add(t, ins(o.Time+100, x(-o.Time-1))); e == api.OK {
				b.move(t, away.Time, o.Time)
				b.revoke(t, o.Time+100)
			}
		}
		b.all(t)
		if !slices.Equal(b.p.ops, ops) {
			t.Fatal("the operations are others")
		}
	}
}

func TestAGreatChain(t *testing.T) {
	const n = 1200
	d := dice(3)
	b := begin(n)
	edits := func(many, inserts, deletes, moves int) {
		for range many {
			time := d.roll(1 << 40)
			there := time
			if len(b.p.ops) > 0 {
				there = b.p.ops[d.roll(len(b.p.ops))].Time
			}
			switch kind := d.roll(100); {
			case kind < inserts:
				b.add(t, ins(time, api.Item{Key: d.roll(n) - n/2, ID: d.roll(1 << 40)}))
			case kind < inserts+deletes:
				b.add(t, del(time))
			case kind < inserts+deletes+moves:
				b.move(t, there, time)
			default:
				b.revoke(t, there)
			}
		}
		b.holds(t)
		b.queued(t)
		for range 20 {
			b.ask(t, d.roll(1<<40))
		}
	}
	edits(n, 55, 45, 0)
	for range 6 {
		edits(n/4, 15, 15, 60)
	}
	edits(n/2, 5, 5, 10)
}

// rows is n insertions, then as many deletions, which take their items in the order of the keys 2, 4 ..
func rows(t *testing.T, n int) *Chain {
	t.Helper()
	c := New(2*n + 1)
	for i := range n {
		if _, e := c.Insert(4*i, x(2+2*i)); e != api.OK {
			t.Fatalf("P15.1: %v", e)
		}
		if _, e := c.Delete(4*n + 4*i); e != api.OK {
			t.Fatalf("P15.1: %v", e)
		}
	}
	return c
}

func TestEditsThatAllDeletionsFeel(t *testing.T) {
	const n = 10000
	c := rows(t, n)
	// Item 0 is one that comes ahead of all others, item n + 1 is none.
	line := []api.Took{took(1)}
	for i := range n {
		line = append(line, took(2+2*i))
	}
	line = append(line, none, none)
	// Each deletion takes what is some items farther on than what it took.
	shift := func(from, to int) []api.Step {
		var steps []api.Step
		for i := range n {
			steps = append(steps, step(4*n+4*i, line[i+from], line[i+to]))
		}
		return steps
	}
	tells := func(does edit, change api.Change, steps ...api.Step) {
		t.Helper()
		if r, e := does.does(c); e != api.OK || !same(r, api.Report{Change: change, Steps: steps}) {
			t.Fatalf("P15.1: %v: %v, %v, %d steps; want %v, %d steps", does, e, r.Change, len(r.Steps), change, len(steps))
		}
	}
	nothing := api.Change{}
	tells(insert(-1, 1), in(2*n), shift(1, 0)...)
	tells(move(-1, 4*n-1), nothing)
	tells(move(4*n-1, 9*n), api.Change{In: items(1), Out: items(2 * n)}, shift(0, 1)...)
	tells(move(9*n, 1), api.Change{In: items(2 * n), Out: items(1)}, shift(1, 0)...)
	tells(revoke(1), out(2*n), shift(0, 1)...)
	tells(remove(4*n-1), nothing, shift(1, 2)...)
	tells(move(4*n-1, 2), nothing)
	tells(move(2, 8*n-1), nothing, append(shift(2, 1), step(8*n-1, took(2), none))...)
	tells(move(8*n-1, 4*n-1), nothing, append([]api.Step{step(4*n-1, none, took(2))}, shift(1, 2)...)...)
	tells(revoke(4*n-1), nothing, shift(2, 1)...)
	tells(revoke(0), nothing, shift(1, 2)...)
	for i := range n {
		if got, ok := c.Took(4*n + 4*i); !ok || got != line[i+2] {
			t.Fatalf("P15.2: Took(%d): %v, %v; want %v", 4*n+4*i, got, ok, line[i+2])
		}
		if time, ok := c.Eater(x(4 + 2*i)); ok != (i < n-1) || ok && time != 4*n+4*i {
			t.Fatalf("P15.2: Eater of %d: %d, %v", 4+2*i, time, ok)
		}
	}
}

func TestWhatMealsComeTo(t *testing.T) {
	fasts := mealAt(1)
	since := func(time int) meal {
		m := mealAt(1)
		m.Took, m.since = took(1), time
		return m
	}
	// All lists of up to four of these (the shorter ones more than once), parted wherever.
	lists := [][]meal{nil}
	for range 4 {
		for _, l := range lists {
			for _, m := range []meal{fasts, since(5), since(0), since(-5), since(math.MinInt), since(math.MaxInt)} {
				lists = append(lists, append(slices.Clip(l), m))
			}
		}
	}
	sum := func(l []meal) meals {
		var s meals
		for _, m := range l {
			s = s.Plus(m.Sum())
		}
		return s
	}
	for _, l := range lists {
		earliest, some := 0, false
		for _, m := range l {
			if m.Took.Found && (!some || m.since < earliest) {
				earliest, some = m.since, true
			}
		}
		for i := range len(l) + 1 {
			s := sum(l[:i]).Plus(sum(l[i:]))
			if s.some() != some || s.since != earliest || s.Swell != sum(l).Swell {
				t.Fatalf("P15.1: %v parted at %d: %v; want %d, %v", l, i, s, earliest, some)
			}
		}
	}
}

func TestTheMostRoom(t *testing.T) {
	c := New(api.MaxOps + 1)
	for i := range api.MaxOps {
		o := del(i)
		if i%2 == 0 {
			o = ins(i, api.Item{Key: -i, ID: i})
		}
		if _, e := enter(c, o); e != api.OK {
			t.Fatalf("P15.1: the operation %d of MaxOps: %v", i, e)
		}
	}
	if _, e := c.Delete(-1); e != api.ErrFull || c.Queue().Len() != api.MaxOps {
		t.Errorf("P15.1: one more than MaxOps: %v", e)
	}
	if r, e := c.Move(0, 1<<20); e != api.OK || len(r.Steps) != 1 || r.Steps[0] != step(1, api.Took{Found: true}, none) {
		t.Errorf("P15.1: moved among the most: %v, %v", r, e)
	}
	if _, e := c.Revoke(1); e != api.OK {
		t.Errorf("P15.1: revoked among the most: %v", e)
	}
	if _, e := c.Insert(0, api.Item{Key: 5}); e != api.OK {
		t.Errorf("P15.1: room for one: %v", e)
	}
	if _, e := c.Delete(1); e != api.ErrFull {
		t.Errorf("P15.1: and for no more: %v", e)
	}
}
