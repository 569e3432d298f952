package line

import (
	"cmp"
	"slices"
	"testing"

	"whilom/api"
	"whilom/tag"
)

// dice are numbers in no order, the same ones at each run.
type dice uint64

func (d *dice) below(n int) int {
	*d ^= *d << 13
	*d ^= *d >> 7
	*d ^= *d << 17
	return int(uint64(*d) % uint64(n))
}

// plain is a timeline as the chapter tells it, without a thought for how long a call takes: all that lives, in the order of time, is run through for each answer.
type plain struct {
	capacity, serial int
	lasts            []int
	live             []api.Listed
}

// told is what a run tells: what is left, which item each deletion takes, which deletion takes each insertion's item, and whether every deletion took something.
type told struct {
	left  []api.Item
	takes map[api.Ref]api.Item
	eater map[api.Ref]api.Ref
	legal bool
}

// run goes through operations.
func run(list []api.Listed) told {
	r := told{takes: map[api.Ref]api.Item{}, eater: map[api.Ref]api.Ref{}, legal: true}
	inserts := map[api.Item]api.Ref{}
	for _, x := range list {
		switch {
		case x.Op.Insert:
			inserts[x.Op.Item] = x.Ref
			r.left = append(r.left, x.Op.Item)
			slices.SortFunc(r.left, order)
		case len(r.left) == 0:
			r.legal = false
		default:
			r.takes[x.Ref] = r.left[0]
			r.eater[inserts[r.left[0]]] = x.Ref
			r.left = r.left[1:]
		}
	}
	return r
}

// order orders items.
func order(x, y api.Item) int {
	return cmp.Or(cmp.Compare(x.Key, y.Key), cmp.Compare(x.ID, y.ID))
}

// byTime orders operations.
func byTime(x, y api.Listed) int {
	return cmp.Compare(x.Op.Time, y.Op.Time)
}

// without are the items of a list that another one doesn't have.
func without(l, m []api.Item) []api.Item {
	return slices.DeleteFunc(slices.Clone(l), func(x api.Item) bool { return slices.Contains(m, x) })
}

// differ is the report of an edit that led from some operations to others.
func differ(from, to []api.Listed) api.Report {
	a, b := run(from), run(to)
	r := api.Report{Change: api.Change{In: without(b.left, a.left), Out: without(a.left, b.left)}}
	for _, x := range to {
		old, was := a.takes[x.Ref]
		now, is := b.takes[x.Ref]
		if was && is && old != now {
			r.Steps = append(r.Steps, api.Step{Time: x.Op.Time, Old: api.Took{Found: true, Item: old}, New: api.Took{Found: true, Item: now}})
		}
	}
	return r
}

// same tells whether two reports tell the same.
func same(a, b api.Report) bool {
	return slices.Equal(a.In, b.In) && slices.Equal(a.Out, b.Out) && slices.Equal(a.Steps, b.Steps)
}

// where is the place of the live operation of a handle; -1, if there is none.
func (p *plain) where(r api.Ref) int {
	return slices.IndexFunc(p.live, func(x api.Listed) bool { return x.Ref == r })
}

// at is the place of the live operation of a time; -1, if there is none.
func (p *plain) at(time int) int {
	return slices.IndexFunc(p.live, func(x api.Listed) bool { return x.Op.Time == time })
}

// become lets other operations live, if they are legal.
func (p *plain) become(list []api.Listed) (api.Report, api.Errno) {
	slices.SortFunc(list, byTime)
	if !run(list).legal {
		return api.Report{}, api.ErrEmpty
	}
	r := differ(p.live, list)
	p.live = list
	return r, api.OK
}

// room is the error of an operation that is too much, or whose time isn't free.
func (p *plain) room(time int) api.Errno {
	if len(p.live) >= p.capacity {
		return api.ErrFull
	}
	if p.at(time) >= 0 {
		return api.ErrTime
	}
	return api.OK
}

// slot is the least free one; one behind all, if there is none among them.
func (p *plain) slot() int {
	for slot, gen := range p.lasts {
		lives := slices.ContainsFunc(p.live, func(x api.Listed) bool { return x.Ref.Index == slot })
		if !lives && gen < api.MaxGen {
			return slot
		}
	}
	return len(p.lasts)
}

// add adds a new operation, of a deletion with the key 0.
func (p *plain) add(time int, insert bool, key int) (api.Ref, api.Report, api.Errno) {
	if e := p.room(time); e != api.OK {
		return api.Ref{}, api.Report{}, e
	}
	slot, lasts := p.slot(), slices.Clone(p.lasts)
	if slot == len(lasts) {
		lasts = append(lasts, 0)
	}
	lasts[slot]++
	x := lst(slot, lasts[slot], time, insert, key, p.serial)
	r, e := p.become(append(slices.Clone(p.live), x))
	if e != api.OK {
		return api.Ref{}, r, e
	}
	p.lasts, p.serial = lasts, p.serial+1
	return x.Ref, r, e
}

func (p *plain) revoke(r api.Ref) (api.Report, api.Errno) {
	i := p.where(r)
	if i < 0 {
		return api.Report{}, api.ErrHandle
	}
	return p.become(slices.Delete(slices.Clone(p.live), i, i+1))
}

func (p *plain) move(r api.Ref, to int) (api.Report, api.Errno) {
	i := p.where(r)
	if i < 0 {
		return api.Report{}, api.ErrHandle
	}
	if j := p.at(to); j >= 0 && j != i {
		return api.Report{}, api.ErrTime
	}
	list := slices.Clone(p.live)
	list[i].Op.Time = to
	return p.become(list)
}

func (p *plain) revive(x api.Listed) (api.Report, api.Errno) {
	if e := p.room(x.Op.Time); e != api.OK {
		return api.Report{}, e
	}
	used := func(y api.Listed) bool { return y.Ref.Index == x.Ref.Index }
	if x.Ref.Index < 0 || x.Ref.Index >= len(p.lasts) || x.Ref.Gen < 1 || x.Ref.Gen > p.lasts[x.Ref.Index] || slices.ContainsFunc(p.live, used) {
		return api.Report{}, api.ErrHandle
	}
	known := func(y api.Listed) bool { return y.Op.Item.ID == x.Op.Item.ID }
	if x.Op.Item.ID < 0 || x.Op.Item.ID >= p.serial || slices.ContainsFunc(p.live, known) || !x.Op.Insert && x.Op.Item.Key != 0 {
		return api.Report{}, api.ErrArg
	}
	return p.become(append(slices.Clone(p.live), x))
}

// upTo are the operations up to a time, that one, too.
func (p *plain) upTo(time int) []api.Listed {
	i, there := slices.BinarySearchFunc(p.live, time, func(x api.Listed, time int) int { return cmp.Compare(x.Op.Time, time) })
	if there {
		i++
	}
	return p.live[:i]
}

// lst is an operation and its handle.
func lst(index, gen, time int, insert bool, key, id int) api.Listed {
	return api.Listed{Ref: api.Ref{Index: index, Gen: gen}, Op: api.Op{Time: time, Insert: insert, Item: api.Item{Key: key, ID: id}}}
}

// both is a timeline, and the plain one that it is held against.
type both struct {
	l *Line
	p *plain
}

// begin is a timeline without operations.
func begin(t *testing.T, capacity int) both {
	t.Helper()
	l, e := New(capacity)
	if e != api.OK || l == nil {
		t.Fatalf("P17.1: New(%d): %v, %v", capacity, l, e)
	}
	return both{l, &plain{capacity: capacity}}
}

// makes is a timeline of the table that there must be of these.
func makes(t *testing.T, capacity, serial int, lasts []int, list []api.Listed) both {
	t.Helper()
	m, e := tag.Make(capacity, serial, lasts, list)
	if e != api.OK {
		t.Fatalf("no table of %d, %d, %v, %v: %v", capacity, serial, lasts, list, e)
	}
	l, e := Make(m)
	if e != api.OK || l == nil || l.Tags() != m {
		t.Fatalf("P17.1: Make of %v: %v, %v", list, l, e)
	}
	return both{l, &plain{capacity, serial, slices.Clone(lasts), slices.Clone(list)}}
}

// act is a call of an edit, with its arguments.
type act struct {
	kind      string
	time, key int
	x         api.Listed
}

// edits are the calls of both, by name.
func (b both) edits(a act) (ours, plains answer) {
	r := a.x.Ref
	switch a.kind {
	case "insert":
		ours = answered(b.l.Insert(a.time, a.key))
		plains = answered(b.p.add(a.time, true, a.key))
	case "delete":
		ours = answered(b.l.Delete(a.time))
		plains = answered(b.p.add(a.time, false, 0))
	case "revoke":
		ours = reported(b.l.Revoke(r))
		plains = reported(b.p.revoke(r))
	case "move":
		ours = reported(b.l.Move(r, a.time))
		plains = reported(b.p.move(r, a.time))
	default:
		ours = reported(b.l.Revive(a.x))
		plains = reported(b.p.revive(a.x))
	}
	return ours, plains
}

// answer is what an edit answers.
type answer struct {
	ref    api.Ref
	report api.Report
	e      api.Errno
}

func answered(r api.Ref, report api.Report, e api.Errno) answer { return answer{r, report, e} }
func reported(report api.Report, e api.Errno) answer            { return answer{api.Ref{}, report, e} }

// do does an edit on both, and holds what they answer against one another.
func (b both) do(t *testing.T, a act) answer {
	t.Helper()
	was := b.p.live
	got, want := b.edits(a)
	if got.e != want.e || got.ref != want.ref {
		t.Fatalf("P17.2: %v of %v: %v, %v; want %v, %v", a, was, got.ref, got.e, want.ref, want.e)
	}
	if !same(got.report, want.report) {
		t.Fatalf("P17.5: %v of %v: %v; want %v", a, was, got.report, want.report)
	}
	r := got.report
	if len(r.In) > 1 || len(r.Out) > 1 || a.kind != "move" && len(r.In)+len(r.Out) > 1 {
		t.Fatalf("P17.5: %v of %v: %v", a, was, r.Change)
	}
	return got
}

// tabled holds the table to what it is to tell.
func (b both) tabled(t *testing.T) {
	t.Helper()
	m, p := b.l.Tags(), b.p
	if m.Cap() != p.capacity || m.Len() != len(p.live) || m.Serial() != p.serial || !slices.Equal(m.Lasts(), p.lasts) || !slices.Equal(m.List(), p.live) {
		t.Fatalf("P17.1: the table tells %d, %d, %d, %v, %v; want %d, %d, %d, %v, %v", m.Cap(), m.Len(), m.Serial(), m.Lasts(), m.List(), p.capacity, len(p.live), p.serial, p.lasts, p.live)
	}
}

// handled holds to a run what is told of each operation that lives.
func (b both) handled(t *testing.T) {
	t.Helper()
	r := run(b.p.live)
	if got := b.l.Now(); !slices.Equal(got, r.left) {
		t.Fatalf("P17.3: %v: Now: %v; want %v", b.p.live, got, r.left)
	}
	for _, x := range b.p.live {
		if op, e := b.l.Find(x.Ref); e != api.OK || op != x.Op {
			t.Fatalf("P17.3: Find(%v): %v, %v; want %v", x.Ref, op, e, x.Op)
		}
		eater, eaten := r.eater[x.Ref]
		if got, e := b.l.Eater(x.Ref); got != eater || e != orErrNone(eaten) {
			t.Fatalf("P17.4: %v: Eater(%v): %v, %v; want %v, %v", b.p.live, x.Ref, got, e, eater, eaten)
		}
		takes, deletes := r.takes[x.Ref]
		if got, e := b.l.Took(x.Ref); got != takes || e != orErrNone(deletes) {
			t.Fatalf("P17.4: %v: Took(%v): %v, %v; want %v, %v", b.p.live, x.Ref, got, e, takes, deletes)
		}
	}
}

// orErrNone is the error of what is there, or isn't.
func orErrNone(there bool) api.Errno {
	if there {
		return api.OK
	}
	return api.ErrNone
}

// timed holds to a run what is told of a time.
func (b both) timed(t *testing.T, time int) {
	t.Helper()
	want := run(b.p.upTo(time)).left
	var least api.Item
	if len(want) > 0 {
		least = want[0]
	}
	if got, e := b.l.Min(time); got != least || e != orErrNone(len(want) > 0) {
		t.Fatalf("P17.3: %v: Min(%d): %v, %v; want one of %v", b.p.live, time, got, e, want)
	}
	if got := b.l.Size(time); got != len(want) {
		t.Fatalf("P17.3: %v: Size(%d): %d; want %d", b.p.live, time, got, len(want))
	}
	for k := -1; k <= len(want); k++ {
		var kth api.Item
		there := k >= 0 && k < len(want)
		if there {
			kth = want[k]
		}
		if got, e := b.l.Kth(time, k); got != kth || e != orErrNone(there) {
			t.Fatalf("P17.3: %v: Kth(%d, %d): %v, %v; want one of %v", b.p.live, time, k, got, e, want)
		}
	}
	for _, x := range b.p.live {
		is := x.Op.Insert && slices.Contains(want, x.Op.Item)
		if got, e := b.l.Has(time, x.Ref); got != is || e != api.OK {
			t.Fatalf("P17.3: %v: Has(%d, %v): %v, %v; want %v", b.p.live, time, x.Ref, got, e, is)
		}
	}
}

// dead holds all calls to it that a handle doesn't live.
func (b both) dead(t *testing.T, r api.Ref) {
	t.Helper()
	if b.p.where(r) >= 0 {
		return
	}
	if op, e := b.l.Find(r); op != (api.Op{}) || e != api.ErrHandle {
		t.Fatalf("P17.3: Find(%v): %v, %v", r, op, e)
	}
	if x, e := b.l.Eater(r); x != (api.Ref{}) || e != api.ErrHandle {
		t.Fatalf("P17.4: Eater(%v): %v, %v", r, x, e)
	}
	if x, e := b.l.Took(r); x != (api.Item{}) || e != api.ErrHandle {
		t.Fatalf("P17.4: Took(%v): %v, %v", r, x, e)
	}
	for _, time := range edges {
		if has, e := b.l.Has(time, r); has || e != api.ErrHandle {
			t.Fatalf("P17.3: Has(%d, %v): %v, %v", time, r, has, e)
		}
	}
	b.do(t, act{kind: "revoke", x: api.Listed{Ref: r}})
	b.do(t, act{kind: "move", time: 3, x: api.Listed{Ref: r}})
}

// all holds all that a timeline tells: at, beside and between all times, and beyond them.
func (b both) all(t *testing.T) {
	t.Helper()
	b.tabled(t)
	b.handled(t)
	for _, x := range b.p.live {
		for _, time := range []int{x.Op.Time - 1, x.Op.Time, x.Op.Time + 1} {
			b.timed(t, time)
		}
		b.dead(t, api.Ref{Index: x.Ref.Index, Gen: x.Ref.Gen - 1})
		b.dead(t, api.Ref{Index: x.Ref.Index, Gen: x.Ref.Gen + 1})
	}
	b.dead(t, api.Ref{})
	b.dead(t, api.Ref{Index: len(b.p.lasts), Gen: 1})
	b.timed(t, edges[0])
	b.timed(t, edges[len(edges)-1])
}
