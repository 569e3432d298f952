package line

import (
	"math"
	"slices"
	"testing"

	"whilom/api"
	"whilom/tag"
)

// edges are numbers at which a narrower number or a lesser check would go wrong, in order.
var edges = []int{math.MinInt, math.MinInt + 1, -1 << 32, -1, 0, 1, 1 << 32, math.MaxInt - 1, math.MaxInt}

// ref is a handle.
func ref(index, gen int) api.Ref { return api.Ref{Index: index, Gen: gen} }

// it is an item.
func it(key, id int) api.Item { return api.Item{Key: key, ID: id} }

// step is one of a report: what was taken, and what is.
func step(time int, old, now api.Item) api.Step {
	return api.Step{Time: time, Old: api.Took{Found: true, Item: old}, New: api.Took{Found: true, Item: now}}
}

// report is one of what enters, what leaves, and steps.
func report(in, out []api.Item, steps ...api.Step) api.Report {
	return api.Report{Change: api.Change{In: in, Out: out}, Steps: steps}
}

// one is a list of an item.
func one(key, id int) []api.Item { return []api.Item{it(key, id)} }

// insert and remove add an operation of both that there must be room for.
func (b both) insert(t *testing.T, time, key int) api.Listed {
	t.Helper()
	return b.issued(t, act{kind: "insert", time: time, key: key})
}

func (b both) remove(t *testing.T, time int) api.Listed {
	t.Helper()
	return b.issued(t, act{kind: "delete", time: time})
}

// issued is what an addition that goes well lets live.
func (b both) issued(t *testing.T, a act) api.Listed {
	t.Helper()
	r := b.do(t, a)
	if r.e != api.OK {
		t.Fatalf("P17.2: %v: %v", a, r.e)
	}
	op, _ := b.l.Find(r.ref)
	return api.Listed{Ref: r.ref, Op: op}
}

// refused holds an edit to an error, and to it that it changes nothing.
func (b both) refused(t *testing.T, a act, want api.Errno) {
	t.Helper()
	r := b.do(t, a)
	if r.e != want || r.ref != (api.Ref{}) || !same(r.report, api.Report{}) {
		t.Errorf("P17.2: %v: %v; want %v", a, r, want)
	}
	b.all(t)
}

// goes holds an edit that goes well to its report.
func (b both) goes(t *testing.T, a act, want api.Report) {
	t.Helper()
	if r := b.do(t, a); r.e != api.OK || !same(r.report, want) {
		t.Errorf("P17.5: %v: %v, %v; want %v", a, r.report, r.e, want)
	}
	b.all(t)
}

func TestNew(t *testing.T) {
	for _, capacity := range []int{math.MinInt, -65536, -1, 65537, 1 << 32, math.MaxInt} {
		if l, e := New(capacity); l != nil || e != api.ErrArg {
			t.Errorf("P17.1: New(%d): %v, %v", capacity, l, e)
		}
	}
	for _, capacity := range []int{0, 1, 2, 65535, 65536} {
		b := begin(t, capacity)
		b.all(t)
		for _, time := range edges {
			b.timed(t, time)
		}
		if capacity == 0 {
			b.refused(t, act{kind: "insert", time: 1}, api.ErrFull)
			b.refused(t, act{kind: "delete", time: 1}, api.ErrFull)
		} else {
			b.refused(t, act{kind: "delete", time: 1}, api.ErrEmpty)
		}
	}
}

func TestTheExample(t *testing.T) {
	l, _ := New(9)
	if r, _, e := l.Insert(1, 5); r != ref(0, 1) || e != api.OK {
		t.Errorf("P17.2: Insert 5 at 1: %v, %v", r, e)
	}
	if r, _, e := l.Delete(2); r != ref(1, 1) || e != api.OK {
		t.Errorf("P17.2: Delete at 2: %v, %v", r, e)
	}
	if r, e := l.Revoke(ref(0, 1)); !same(r, api.Report{}) || e != api.ErrEmpty {
		t.Errorf("P17.2: Revoke 0 1: %v, %v", r, e)
	}
	r, rep, e := l.Insert(0, 3)
	if want := report(one(5, 0), nil, step(2, it(5, 0), it(3, 2))); r != ref(2, 1) || e != api.OK || !same(rep, want) {
		t.Errorf("P17.5: Insert 3 at 0: %v, %v, %v; want %v", r, rep, e, want)
	}
	if r, e := l.Eater(ref(0, 1)); r != (api.Ref{}) || e != api.ErrNone {
		t.Errorf("P17.4: Eater 0 1: %v, %v", r, e)
	}
	if r, e := l.Revoke(ref(0, 1)); e != api.OK || !same(r, report(nil, one(5, 0))) {
		t.Errorf("P17.5: Revoke 0 1: %v, %v", r, e)
	}
}

func TestMake(t *testing.T) {
	if l, e := Make(nil); l != nil || e != api.ErrNil {
		t.Errorf("P17.1: Make(nil): %v, %v", l, e)
	}
	makes(t, 0, 0, nil, nil).all(t)
	makes(t, 5, 9, []int{0, 7, 3}, nil).all(t)
	b := makes(t, 4, 9, []int{2, 0, 1, 5}, []api.Listed{lst(3, 4, -10, true, 8, 6), lst(0, 1, 0, true, 7, 2), lst(2, 1, 9, false, 0, 8)})
	b.all(t)
	if x, e := b.l.Took(ref(2, 1)); x != it(7, 2) || e != api.OK {
		t.Errorf("P17.4: Took of what was made: %v, %v", x, e)
	}
	// Its slots, Gens and serial go on.
	if r, _, e := b.l.Insert(20, 1); r != ref(1, 1) || e != api.OK || b.l.Tags().Serial() != 10 {
		t.Errorf("P17.1: the next handle is %v, %v, the serial %d", r, e, b.l.Tags().Serial())
	}
	if _, _, e := b.l.Insert(21, 1); e != api.ErrFull {
		t.Errorf("P17.1: one more than the table's capacity: %v", e)
	}
}

// TestMakeOfWhatIsNotLegal: the table stays as it is.
func TestMakeOfWhatIsNotLegal(t *testing.T) {
	for _, letters := range []string{"d", "di", "idd", "iddi", "idddii", "iididdd", "dididi", "iidddi", "iiiddddi"} {
		var list []api.Listed
		var lasts []int
		for i, c := range letters {
			list = append(list, lst(i, 2, 5*i, c == 'i', 0, i))
			lasts = append(lasts, 2)
		}
		m, _ := tag.Make(len(list)+1, len(list), lasts, list)
		for range 2 {
			if l, e := Make(m); l != nil || e != api.ErrEmpty {
				t.Errorf("P17.1: Make of %q: %v, %v", letters, l, e)
			}
		}
		if !slices.Equal(m.List(), list) || !slices.Equal(m.Lasts(), lasts) || m.Serial() != len(list) || m.Cap() != len(list)+1 {
			t.Errorf("P17.1: the table that isn't legal tells %v, %v, %d now", m.List(), m.Lasts(), m.Serial())
		}
		// It is, with one more item for each deletion that found nothing.
		for i := 1; !run(list).legal; i++ {
			list = slices.Insert(list, 0, lst(len(lasts), 2, -i, true, 0, len(lasts)))
			lasts = append(lasts, 2)
		}
		makes(t, len(list), len(list), lasts, list).all(t)
	}
}

func TestErrorsInTheirOrder(t *testing.T) {
	b := begin(t, 3)
	a := b.insert(t, 10, 5)
	d := b.remove(t, 20)
	for _, kind := range []string{"insert", "delete"} {
		b.refused(t, act{kind: kind, time: 10}, api.ErrTime)
		b.refused(t, act{kind: kind, time: 20}, api.ErrTime)
	}
	for _, time := range []int{math.MinInt, 9, 11, 19, 21, math.MaxInt} {
		b.refused(t, act{kind: "delete", time: time}, api.ErrEmpty)
	}
	b.refused(t, act{kind: "revoke", x: a}, api.ErrEmpty)
	b.refused(t, act{kind: "revoke", x: lst(0, 2, 10, true, 5, 0)}, api.ErrHandle)
	b.refused(t, act{kind: "move", time: 20, x: lst(2, 1, 0, true, 0, 0)}, api.ErrHandle)
	b.refused(t, act{kind: "move", time: 30, x: lst(0, 0, 0, true, 0, 0)}, api.ErrHandle)
	b.refused(t, act{kind: "move", time: 20, x: a}, api.ErrTime)
	b.refused(t, act{kind: "move", time: 10, x: d}, api.ErrTime)
	b.refused(t, act{kind: "move", time: 21, x: a}, api.ErrEmpty)
	b.refused(t, act{kind: "move", time: math.MaxInt, x: a}, api.ErrEmpty)
	b.refused(t, act{kind: "move", time: 9, x: d}, api.ErrEmpty)
	b.refused(t, act{kind: "move", time: math.MinInt, x: d}, api.ErrEmpty)
	c := b.insert(t, 30, 1)
	for _, time := range []int{10, 15, 25, 30} {
		b.refused(t, act{kind: "insert", time: time}, api.ErrFull)
		b.refused(t, act{kind: "delete", time: time}, api.ErrFull)
		b.refused(t, act{kind: "revive", x: lst(0, 0, time, false, 9, -1)}, api.ErrFull)
	}
	b.refused(t, act{kind: "move", time: 30, x: d}, api.ErrTime)
	b.goes(t, act{kind: "revoke", x: c}, report(nil, one(1, 2)))
	b.refused(t, act{kind: "revoke", x: c}, api.ErrHandle)
}

func TestReviveByHand(t *testing.T) {
	b := begin(t, 4)
	b.insert(t, 10, 5)
	c := b.insert(t, 20, 7)
	d := b.remove(t, 30)
	e := b.remove(t, 40)
	b.goes(t, act{kind: "revoke", x: e}, report(one(7, 1), nil))
	b.goes(t, act{kind: "revoke", x: d}, report(one(5, 0), nil))
	b.goes(t, act{kind: "revoke", x: c}, report(nil, one(7, 1)))
	for _, r := range []struct {
		x    api.Listed
		want api.Errno
	}{
		{lst(0, 0, 10, false, 9, -1), api.ErrTime}, {lst(2, 1, 10, false, 0, 2), api.ErrTime},
		{lst(0, 1, 9, false, 9, -1), api.ErrHandle}, {lst(0, 1, 9, true, 5, 2), api.ErrHandle}, {lst(1, 2, 9, true, 5, 2), api.ErrHandle}, {lst(1, 0, 9, true, 5, 2), api.ErrHandle}, {lst(4, 1, 9, true, 5, 2), api.ErrHandle}, {lst(-1, 1, 9, true, 5, 2), api.ErrHandle}, {lst(1, math.MaxInt, 9, true, 5, 2), api.ErrHandle},
		{lst(1, 1, 9, true, 5, 0), api.ErrArg}, {lst(1, 1, 9, true, 5, 4), api.ErrArg}, {lst(1, 1, 9, true, 5, -1), api.ErrArg}, {lst(1, 1, 9, false, 1, 2), api.ErrArg}, {lst(1, 1, 9, false, -1, 2), api.ErrArg}, {lst(1, 1, 20, false, 0, 0), api.ErrArg},
		{lst(2, 1, 9, false, 0, 2), api.ErrEmpty}, {lst(2, 1, math.MinInt, false, 0, 2), api.ErrEmpty}, {lst(1, 1, 5, false, 0, 1), api.ErrEmpty},
	} {
		b.refused(t, act{kind: "revive", x: r.x}, r.want)
	}
	b.goes(t, act{kind: "revive", x: d}, report(nil, one(5, 0)))
	b.refused(t, act{kind: "revive", x: d}, api.ErrTime)
	b.refused(t, act{kind: "revive", x: e}, api.ErrEmpty)
	b.goes(t, act{kind: "revive", x: lst(1, 1, 20, true, 2, 1)}, report(one(5, 0), nil, step(30, it(5, 0), it(2, 1)))) // another key than it had
	b.goes(t, act{kind: "revive", x: e}, report(nil, one(5, 0)))
	b.refused(t, act{kind: "revive", x: lst(0, 1, 30, true, 0, 0)}, api.ErrFull)
}

// TestADeletionThatWasRefusedTakesNoSlot: the next handle, ID and Gens are those that they would be without it.
func TestADeletionThatWasRefusedTakesNoSlot(t *testing.T) {
	b := begin(t, 5)
	for range 3 {
		b.refused(t, act{kind: "delete", time: 5}, api.ErrEmpty)
	}
	a := b.insert(t, 7, 1)
	if want := lst(0, 1, 7, true, 1, 0); a != want {
		t.Errorf("P17.2: behind what was refused lives %v; want %v", a, want)
	}
	b.goes(t, act{kind: "revoke", x: a}, report(nil, one(1, 0)))
	b.refused(t, act{kind: "revive", x: lst(0, 1, 7, false, 0, 0)}, api.ErrEmpty)
	if r, want := b.insert(t, 8, 2), lst(0, 2, 8, true, 2, 1); r != want {
		t.Errorf("P17.2: behind what was refused lives %v; want %v", r, want)
	}
}

// TestAHandleThatWasRevokedLivesNeverAgain by itself, whatever takes its slot; but if it is revived.
func TestAHandleThatWasRevokedLivesNeverAgain(t *testing.T) {
	b := begin(t, 2)
	var gone []api.Listed
	for i := range 30 {
		x := b.insert(t, i, i%4)
		if x.Ref != ref(0, i+1) {
			t.Errorf("P17.2: the handle %v; want %v", x.Ref, ref(0, i+1))
		}
		for _, y := range gone {
			b.dead(t, y.Ref)
		}
		b.do(t, act{kind: "revoke", x: x})
		gone = append(gone, x)
	}
	for _, x := range gone {
		b.goes(t, act{kind: "revive", x: x}, report([]api.Item{x.Op.Item}, nil))
		b.goes(t, act{kind: "revoke", x: x}, report(nil, []api.Item{x.Op.Item}))
	}
}

func TestHandlesThatNeverLived(t *testing.T) {
	b := begin(t, 5)
	for i := range 3 {
		b.insert(t, 10*i, i)
	}
	b.remove(t, 40)
	for _, index := range append([]int{2, 3, 4, 5}, edges...) {
		for _, gen := range append([]int{2, 1<<32 + 1}, edges...) {
			b.dead(t, ref(index, gen))
		}
	}
	b.all(t)
}

func TestTellsByHand(t *testing.T) {
	b := begin(t, 9)
	c := b.insert(t, 10, 50) // 0.1
	d := b.insert(t, 20, -3) // 1.1
	e := b.remove(t, 30)     // 2.1
	b.insert(t, 40, 50)      // 3.1: a key twice
	for _, r := range []struct {
		time  int
		items []api.Item
	}{
		{math.MinInt, nil}, {9, nil}, {10, one(50, 0)}, {19, one(50, 0)}, {20, []api.Item{it(-3, 1), it(50, 0)}}, {29, []api.Item{it(-3, 1), it(50, 0)}},
		{30, one(50, 0)}, {39, one(50, 0)}, {40, []api.Item{it(50, 0), it(50, 3)}}, {math.MaxInt, []api.Item{it(50, 0), it(50, 3)}},
	} {
		if n := b.l.Size(r.time); n != len(r.items) {
			t.Errorf("P17.3: Size(%d): %d; want %d", r.time, n, len(r.items))
		}
		for k, want := range r.items {
			if x, e := b.l.Kth(r.time, k); x != want || e != api.OK {
				t.Errorf("P17.3: Kth(%d, %d): %v, %v; want %v", r.time, k, x, e, want)
			}
			if x, e := b.l.Min(r.time); x != r.items[0] || e != api.OK {
				t.Errorf("P17.3: Min(%d): %v, %v; want %v", r.time, x, e, r.items[0])
			}
		}
		for _, k := range []int{math.MinInt, -1, len(r.items), math.MaxInt} {
			if x, e := b.l.Kth(r.time, k); x != (api.Item{}) || e != api.ErrNone {
				t.Errorf("P17.3: Kth(%d, %d): %v, %v", r.time, k, x, e)
			}
		}
		if x, e := b.l.Min(r.time); len(r.items) == 0 && (x != (api.Item{}) || e != api.ErrNone) {
			t.Errorf("P17.3: Min(%d): %v, %v", r.time, x, e)
		}
		for _, x := range []api.Listed{c, d, e} {
			if has, e := b.l.Has(r.time, x.Ref); has != (x.Op.Insert && slices.Contains(r.items, x.Op.Item)) || e != api.OK {
				t.Errorf("P17.3: Has(%d, %v): %v, %v", r.time, x.Ref, has, e)
			}
		}
	}
	if x, e := b.l.Took(e.Ref); x != it(-3, 1) || e != api.OK {
		t.Errorf("P17.4: Took: %v, %v", x, e)
	}
	if r, e := b.l.Eater(d.Ref); r != ref(2, 1) || e != api.OK {
		t.Errorf("P17.4: Eater: %v, %v", r, e)
	}
	if r, x := b.l.Eater(e.Ref); r != (api.Ref{}) || x != api.ErrNone {
		t.Errorf("P17.4: Eater of a deletion: %v, %v", r, x)
	}
	if x, e := b.l.Took(d.Ref); x != (api.Item{}) || e != api.ErrNone {
		t.Errorf("P17.4: Took of an insertion: %v, %v", x, e)
	}
	b.all(t)
}

// TestADeletionIsNoItem: it has an ID and no key, and yet no item lives that has these, nor one of that key.
func TestADeletionIsNoItem(t *testing.T) {
	b := begin(t, 5)
	b.insert(t, 0, 0)
	d := b.remove(t, 1)
	b.insert(t, 2, 0)
	for _, time := range []int{0, 1, 2, 3} {
		if has, e := b.l.Has(time, d.Ref); has || e != api.OK {
			t.Errorf("P17.3: Has(%d) of a deletion: %v, %v", time, has, e)
		}
	}
	b.all(t)
	// Its ID may be an insertion's, once it is revoked, and the other way round.
	b.do(t, act{kind: "revoke", x: d})
	b.goes(t, act{kind: "revive", x: lst(1, 1, 5, true, 0, 1)}, report(one(0, 1), nil))
	b.goes(t, act{kind: "revoke", x: lst(0, 1, 0, true, 0, 0)}, report(nil, one(0, 0)))
	b.goes(t, act{kind: "revive", x: lst(0, 1, 7, false, 0, 0)}, report(nil, one(0, 1)))
}

func TestReportsByHand(t *testing.T) {
	b := begin(t, 9)
	one5, one3 := b.insert(t, 1, 5), api.Listed{}
	d := b.remove(t, 4)
	b.goes(t, act{kind: "insert", time: 2, key: 3}, report(one(5, 0), nil, step(4, it(5, 0), it(3, 2))))
	one3.Ref = ref(2, 1)
	b.goes(t, act{kind: "move", time: 6, x: one3}, report(one(3, 2), one(5, 0), step(4, it(3, 2), it(5, 0))))
	b.goes(t, act{kind: "move", time: 7, x: d}, report(one(5, 0), one(3, 2), step(7, it(5, 0), it(3, 2))))
	b.goes(t, act{kind: "move", time: 7, x: d}, api.Report{})
	b.goes(t, act{kind: "move", time: math.MaxInt, x: d}, api.Report{})
	b.goes(t, act{kind: "delete", time: 5}, report(nil, one(5, 0)))
	b.goes(t, act{kind: "move", time: math.MinInt, x: one3}, report(nil, nil, step(5, it(5, 0), it(3, 2)), step(math.MaxInt, it(3, 2), it(5, 0))))
	b.refused(t, act{kind: "revoke", x: one5}, api.ErrEmpty)
	b.goes(t, act{kind: "insert", time: 9, key: 1}, report(one(5, 0), nil, step(math.MaxInt, it(5, 0), it(1, 4))))
	b.goes(t, act{kind: "insert", time: 3, key: 4}, report(one(4, 5), nil))
	b.goes(t, act{kind: "revoke", x: one5}, report(nil, one(5, 0)))
	b.goes(t, act{kind: "revoke", x: d}, report(one(1, 4), nil))
}

func TestAnswersAreNewMemory(t *testing.T) {
	b := begin(t, 9)
	spoil := func(l []api.Item) {
		for i := range l {
			l[i] = it(-99, -99)
		}
		_ = append(l, it(-98, -98))
	}
	for range 3 {
		for _, a := range []act{{kind: "insert", time: 10, key: 5}, {kind: "insert", time: 20, key: 7}, {kind: "delete", time: 30}, {kind: "insert", time: 5, key: 1}, {kind: "move", time: 40, x: lst(0, 1, 0, true, 0, 0)}, {kind: "delete", time: 50}} {
			r := b.do(t, a)
			spoil(r.report.In)
			spoil(r.report.Out)
			for i := range r.report.Steps {
				r.report.Steps[i] = api.Step{Time: -99}
			}
			spoil(b.l.Now())
			b.all(t)
		}
	}
	was := b.l.Now()
	kept := slices.Clone(was)
	b.insert(t, 100, -5)
	if !slices.Equal(was, kept) {
		t.Errorf("P17.3: Now was %v, and is %v", kept, was)
	}
}

func TestTwoTimelinesShareNothing(t *testing.T) {
	b, c := begin(t, 4), begin(t, 4)
	b.insert(t, 1, 1)
	c.all(t)
	c.insert(t, 1, 9)
	c.remove(t, 2)
	b.all(t)
	c.all(t)
}

// TestTheMostRoom: MaxOps operations, each with a report that isn't long, and then none more.
func TestTheMostRoom(t *testing.T) {
	l, _ := New(api.MaxOps)
	for i := range api.MaxOps / 2 {
		if r, _, e := l.Insert(-i, i); r != ref(2*i, 1) || e != api.OK {
			t.Fatalf("P17.2: insertion %d: %v, %v", i, r, e)
		}
		r, rep, e := l.Delete(i + 1)
		if r != ref(2*i+1, 1) || e != api.OK || !same(rep, report(nil, one(i, 2*i))) {
			t.Fatalf("P17.2: deletion %d: %v, %v, %v", i, r, rep, e)
		}
	}
	if _, _, e := l.Insert(math.MaxInt, 0); e != api.ErrFull {
		t.Errorf("P17.2: one more than MaxOps: %v", e)
	}
	if _, e := l.Revoke(ref(0, 1)); e != api.ErrEmpty {
		t.Errorf("P17.2: Revoke of what is needed: %v", e)
	}
	m, e := Make(l.Tags())
	if e != api.OK || len(m.Now()) != 0 || m.Size(0) != api.MaxOps/2 || m.Size(1000) != api.MaxOps/2-1000 {
		t.Fatalf("P17.1: Make of the most: %v", e)
	}
	for _, k := range []int{0, 1, 777, api.MaxOps/2 - 1} {
		if x, e := m.Kth(0, k); x != it(k, 2*k) || e != api.OK {
			t.Errorf("P17.3: Kth(0, %d): %v, %v", k, x, e)
		}
		if r, e := m.Eater(ref(2*k, 1)); r != ref(2*k+1, 1) || e != api.OK {
			t.Errorf("P17.4: Eater of insertion %d: %v, %v", k, r, e)
		}
		if has, e := m.Has(k, ref(2*k, 1)); !has || e != api.OK {
			t.Errorf("P17.3: Has(%d): %v, %v", k, has, e)
		}
		if has, e := m.Has(k+1, ref(2*k, 1)); has || e != api.OK {
			t.Errorf("P17.3: Has(%d): %v, %v", k+1, has, e)
		}
	}
	// All deletions feel it: each takes the next item.
	last := ref(api.MaxOps-1, 1)
	if r, e := m.Revoke(last); e != api.OK || !same(r, report(one(api.MaxOps/2-1, api.MaxOps-2), nil)) {
		t.Errorf("P17.5: Revoke of the last deletion: %v, %v", r, e)
	}
	r, e := m.Revoke(ref(0, 1))
	if e != api.OK || len(r.Steps) != api.MaxOps/2-1 || len(r.In) != 0 || !slices.Equal(r.Out, one(api.MaxOps/2-1, api.MaxOps-2)) {
		t.Errorf("P17.5: Revoke of the first item: %d steps, %v, %v", len(r.Steps), r.Change, e)
	}
	for i, s := range r.Steps {
		if s != step(i+1, it(i, 2*i), it(i+1, 2*i+2)) {
			t.Fatalf("P17.5: step %d: %v", i, s)
		}
	}
}

// TestAGreatTimeline is held against a plain run.
func TestAGreatTimeline(t *testing.T) {
	d := dice(4)
	b := begin(t, 600)
	for i := range 1500 {
		a := act{kind: []string{"insert", "insert", "delete", "move", "revoke"}[d.below(5)], time: d.below(1 << 40), key: d.below(500)}
		if len(b.p.live) > 0 {
			a.x = b.p.live[d.below(len(b.p.live))]
		}
		b.do(t, a)
		if i%250 == 0 {
			b.tabled(t)
			b.handled(t)
			b.timed(t, d.below(1<<40))
		}
	}
	b.tabled(t)
	b.handled(t)
}
