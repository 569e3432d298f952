package tag

import (
	"math"
	"slices"
	"testing"

	"whilom/api"
)

// edges are numbers at which a narrower number or a lesser check would go wrong.
var edges = []int{math.MinInt, math.MinInt + 1, -1 << 32, -1 << 31, -65536, -2, -1, 0, 1, 2, 63, 64, 65, 65535, 65536, 1 << 31, 1<<32 - 1, 1 << 32, math.MaxInt - 1, math.MaxInt}

// lst is an operation and its handle.
func lst(index, gen, time int, insert bool, key, id int) api.Listed {
	return api.Listed{Ref: api.Ref{Index: index, Gen: gen}, Op: api.Op{Time: time, Insert: insert, Item: api.Item{Key: key, ID: id}}}
}

// issue issues an operation that there must be room for.
func issue(t *testing.T, m *Table, time int, insert bool, key int) api.Listed {
	t.Helper()
	l, e := m.Issue(time, insert, key)
	if e != api.OK {
		t.Fatalf("P16.2: Issue(%d, %v, %d): %v", time, insert, key, e)
	}
	return l
}

// wantIssue holds what is issued against what is right.
func wantIssue(t *testing.T, m *Table, want api.Listed) api.Listed {
	t.Helper()
	n, serial := m.Len(), m.Serial()
	l, e := m.Issue(want.Op.Time, want.Op.Insert, want.Op.Item.Key)
	if e != api.OK || l != want {
		t.Errorf("P16.2: Issue(%d, %v, %d): %v, %v; want %v", want.Op.Time, want.Op.Insert, want.Op.Item.Key, l, e, want)
	}
	if m.Len() != n+1 || m.Serial() != serial+1 {
		t.Errorf("P16.2: Len %d, Serial %d behind an Issue; want %d, %d", m.Len(), m.Serial(), n+1, serial+1)
	}
	wantLive(t, m, want)
	return l
}

// wantLive holds Find and At to it that an operation lives.
func wantLive(t *testing.T, m *Table, l api.Listed) {
	t.Helper()
	if op, ok := m.Find(l.Ref); !ok || op != l.Op {
		t.Errorf("P16.2: Find(%v): %v, %v; want %v", l.Ref, op, ok, l.Op)
	}
	if r, ok := m.At(l.Op.Time); !ok || r != l.Ref {
		t.Errorf("P16.2: At(%d): %v, %v; want %v", l.Op.Time, r, ok, l.Ref)
	}
}

// wantFree holds At to it that no operation of a time lives.
func wantFree(t *testing.T, m *Table, time int) {
	t.Helper()
	if r, ok := m.At(time); ok || r != (api.Ref{}) {
		t.Errorf("P16.2: At(%d): %v, %v; want none", time, r, ok)
	}
}

// wantDrop drops an operation that must live.
func wantDrop(t *testing.T, m *Table, l api.Listed) {
	t.Helper()
	n := m.Len()
	if op, ok := m.Drop(l.Ref); !ok || op != l.Op {
		t.Errorf("P16.3: Drop(%v): %v, %v; want %v", l.Ref, op, ok, l.Op)
	}
	if m.Len() != n-1 {
		t.Errorf("P16.3: Len %d behind a Drop; want %d", m.Len(), n-1)
	}
	wantDead(t, m, l.Ref)
	wantFree(t, m, l.Op.Time)
}

// wantDead holds all calls to it that a handle doesn't live, and that nothing changes by them.
func wantDead(t *testing.T, m *Table, r api.Ref) {
	t.Helper()
	was := told(m)
	if op, ok := m.Find(r); ok || op != (api.Op{}) {
		t.Errorf("P16.2: Find(%v): %v, %v; want none", r, op, ok)
	}
	if op, ok := m.Drop(r); ok || op != (api.Op{}) {
		t.Errorf("P16.3: Drop(%v): %v, %v; want none", r, op, ok)
	}
	for _, to := range []int{0, 1, 10, -5, math.MinInt, math.MaxInt} {
		if e := m.Move(r, to); e != api.ErrHandle {
			t.Errorf("P16.3: Move(%v, %d): %v; want %v", r, to, e, api.ErrHandle)
		}
	}
	wantTold(t, m, was)
}

// wantRevive lets an operation live again that may.
func wantRevive(t *testing.T, m *Table, l api.Listed) {
	t.Helper()
	n, serial, lasts := m.Len(), m.Serial(), m.Lasts()
	if e := m.Revive(l); e != api.OK {
		t.Errorf("P16.3: Revive(%v): %v", l, e)
	}
	if m.Len() != n+1 || m.Serial() != serial || !slices.Equal(m.Lasts(), lasts) {
		t.Errorf("P16.3: Len %d, Serial %d, Lasts %v behind a Revive; want %d, %d, %v", m.Len(), m.Serial(), m.Lasts(), n+1, serial, lasts)
	}
	wantLive(t, m, l)
}

// wantNoRevive holds Revive to it that an operation may not live again, and that nothing changes.
func wantNoRevive(t *testing.T, m *Table, l api.Listed, want api.Errno) {
	t.Helper()
	was := told(m)
	if e := m.Revive(l); e != want {
		t.Errorf("P16.3: Revive(%v): %v; want %v", l, e, want)
	}
	wantTold(t, m, was)
}

// wantNoIssue holds Issue to its error, and to it that nothing changes.
func wantNoIssue(t *testing.T, m *Table, time int, want api.Errno) {
	t.Helper()
	was := told(m)
	for _, insert := range []bool{true, false} {
		if l, e := m.Issue(time, insert, 7); e != want || l != (api.Listed{}) {
			t.Errorf("P16.2: Issue(%d, %v, 7): %v, %v; want %v", time, insert, l, e, want)
		}
	}
	wantTold(t, m, was)
}

// wantMove moves an operation to a time that it may have.
func wantMove(t *testing.T, m *Table, l api.Listed, to int) api.Listed {
	t.Helper()
	was := told(m)
	if e := m.Move(l.Ref, to); e != api.OK {
		t.Errorf("P16.3: Move(%v, %d): %v", l.Ref, to, e)
	}
	if to != l.Op.Time {
		wantFree(t, m, l.Op.Time)
	}
	i := slices.Index(was.list, l)
	l.Op.Time = to
	was.list[i] = l
	slices.SortFunc(was.list, byTime)
	wantTold(t, m, was)
	wantLive(t, m, l)
	return l
}

// tale is all that a table tells of itself.
type tale struct {
	capacity, size, serial int
	lasts                  []int
	list                   []api.Listed
}

func told(m *Table) tale {
	return tale{m.Cap(), m.Len(), m.Serial(), m.Lasts(), m.List()}
}

func (a tale) same(b tale) bool {
	return a.capacity == b.capacity && a.size == b.size && a.serial == b.serial && slices.Equal(a.lasts, b.lasts) && slices.Equal(a.list, b.list)
}

// wantTold holds a table to what it is to tell.
func wantTold(t *testing.T, m *Table, want tale) {
	t.Helper()
	if got := told(m); !got.same(want) {
		t.Errorf("P16.1: the table tells %v; want %v", got, want)
	}
	for _, l := range want.list {
		wantLive(t, m, l)
	}
}

// near are handles that differ from r, in ways that a narrower number or a lesser check would miss.
func near(r api.Ref) []api.Ref {
	list := []api.Ref{{Index: -r.Index - 1, Gen: r.Gen}, {Index: r.Index, Gen: -r.Gen}}
	for _, n := range edges {
		if n != 0 {
			list = append(list, api.Ref{Index: r.Index, Gen: r.Gen + n}, api.Ref{Index: r.Index + n, Gen: r.Gen})
		}
		list = append(list, api.Ref{Index: r.Index, Gen: n}, api.Ref{Index: n, Gen: r.Gen})
	}
	return list
}

func TestNewByHand(t *testing.T) {
	for _, r := range []struct{ capacity, want int }{
		{math.MinInt, 0}, {-1 << 32, 0}, {-65536, 0}, {-1, 0}, {0, 0}, {1, 1}, {2, 2}, {1000, 1000}, {65535, 65535},
		{65536, 65536}, {65537, 65536}, {1 << 17, 65536}, {1 << 32, 65536}, {1<<32 + 1, 65536}, {math.MaxInt, 65536},
	} {
		m := New(r.capacity)
		wantTold(t, m, tale{capacity: r.want})
		for _, n := range edges {
			wantFree(t, m, n)
			wantDead(t, m, api.Ref{Index: n})
			wantDead(t, m, api.Ref{Gen: n})
		}
		if r.want == 0 {
			wantNoIssue(t, m, 5, api.ErrFull)
			wantNoRevive(t, m, api.Listed{}, api.ErrFull)
		} else {
			wantNoRevive(t, m, api.Listed{}, api.ErrHandle)
			wantIssue(t, m, lst(0, 1, 5, true, 9, 0))
		}
	}
}

func TestTheLimitIsTheOneOfApi(t *testing.T) {
	if got := New(math.MaxInt).Cap(); got != api.MaxOps {
		t.Errorf("P16.1: Cap %d; want %d", got, api.MaxOps)
	}
}

func TestTheExample(t *testing.T) {
	m := New(10)
	a := wantIssue(t, m, lst(0, 1, 4, true, 5, 0))
	wantDrop(t, m, a)
	b := wantIssue(t, m, lst(0, 2, 4, true, 5, 1))
	wantDrop(t, m, b)
	wantRevive(t, m, a)
	wantDrop(t, m, a)
	wantIssue(t, m, lst(0, 3, 4, true, 5, 2))
	wantTold(t, m, tale{10, 1, 3, []int{3}, []api.Listed{lst(0, 3, 4, true, 5, 2)}})
}

func TestIssueByHand(t *testing.T) {
	m := New(4)
	a := wantIssue(t, m, lst(0, 1, 10, true, 5, 0))
	b := wantIssue(t, m, lst(1, 1, -7, false, 0, 1))
	c := wantIssue(t, m, lst(2, 1, 3, true, -9, 2))
	wantTold(t, m, tale{4, 3, 3, []int{1, 1, 1}, []api.Listed{b, c, a}})
	wantNoIssue(t, m, 10, api.ErrTime)
	wantNoIssue(t, m, -7, api.ErrTime)
	d := wantIssue(t, m, lst(3, 1, 4, true, 5, 3)) // a key that another item has as well
	wantNoIssue(t, m, 11, api.ErrFull)
	wantNoIssue(t, m, 10, api.ErrFull) // that is named first
	wantDrop(t, m, b)
	wantNoIssue(t, m, 10, api.ErrTime)
	e := wantIssue(t, m, lst(1, 2, -7, true, 0, 4))
	wantDead(t, m, b.Ref)
	wantTold(t, m, tale{4, 4, 5, []int{1, 2, 1, 1}, []api.Listed{e, c, d, a}})
}

// TestADeletionHasNoKey: whatever key is handed in.
func TestADeletionHasNoKey(t *testing.T) {
	m := New(len(edges))
	for i, key := range edges {
		if l, e := m.Issue(i, false, key); e != api.OK || l != lst(i, 1, i, false, 0, i) {
			t.Errorf("P16.2: Issue(%d, false, %d): %v, %v", i, key, l, e)
		}
	}
}

// TestKeysAndTimesOfAllSizes: an insertion's key, and any time, are as they were handed in.
func TestKeysAndTimesOfAllSizes(t *testing.T) {
	m := New(len(edges))
	var want []api.Listed
	for i, n := range edges {
		want = append(want, wantIssue(t, m, lst(i, 1, n, true, edges[len(edges)-1-i], i)))
	}
	if got := m.List(); !slices.Equal(got, want) {
		t.Errorf("P16.1: List: %v; want %v", got, want)
	}
	for _, l := range want {
		for _, r := range near(l.Ref) {
			if !slices.ContainsFunc(want, func(x api.Listed) bool { return x.Ref == r }) {
				if op, ok := m.Find(r); ok || op != (api.Op{}) {
					t.Errorf("P16.2: Find(%v): %v, %v; want none", r, op, ok)
				}
				if op, ok := m.Drop(r); ok || op != (api.Op{}) {
					t.Errorf("P16.3: Drop(%v): %v, %v; want none", r, op, ok)
				}
			}
		}
		wantLive(t, m, l)
	}
	for _, l := range want {
		wantDrop(t, m, l)
	}
	for i := len(want) - 1; i >= 0; i-- {
		wantRevive(t, m, want[i])
	}
	if got := m.List(); !slices.Equal(got, want) {
		t.Errorf("P16.1: List: %v; want %v", got, want)
	}
}

func TestTheLeastFreeSlot(t *testing.T) {
	m := New(api.MaxOps)
	var all []api.Listed
	for i := range 200 {
		all = append(all, wantIssue(t, m, lst(i, 1, -i, true, i, i)))
	}
	serial := 200
	for _, slots := range [][]int{{3}, {7, 5, 6}, {0}, {199}, {199, 0}, {63, 64, 65}, {128, 127, 64, 63, 0}, {100, 150, 50, 199, 198}} {
		for _, s := range slots {
			wantDrop(t, m, all[s])
		}
		slices.Sort(slots)
		for _, s := range slots {
			all[s] = wantIssue(t, m, lst(s, all[s].Ref.Gen+1, -s, true, s, serial))
			serial++
		}
	}
	wantIssue(t, m, lst(200, 1, 1, false, 0, serial))
}

// TestReviveTakesItsOwnSlot: it isn't free any more, whether it is the least one or not; nor does a Gen become less.
func TestReviveTakesItsOwnSlot(t *testing.T) {
	m := New(10)
	a, b, c := issue(t, m, 1, true, 1), issue(t, m, 2, true, 2), issue(t, m, 3, false, 3)
	for _, l := range []api.Listed{a, b, c} {
		wantDrop(t, m, l)
	}
	wantRevive(t, m, b)
	d := wantIssue(t, m, lst(0, 2, 5, true, 5, 3))
	wantDrop(t, m, d)
	wantRevive(t, m, a)
	e := wantIssue(t, m, lst(2, 2, 6, true, 5, 4))
	f := wantIssue(t, m, lst(3, 1, 7, true, 5, 5))
	wantDrop(t, m, e)
	wantRevive(t, m, c)
	wantTold(t, m, tale{10, 4, 6, []int{2, 1, 2, 1}, []api.Listed{a, b, c, f}})
	wantNoRevive(t, m, d, api.ErrHandle)
	wantDrop(t, m, a)
	wantIssue(t, m, lst(0, 3, 1, true, 1, 6))
	wantNoRevive(t, m, d, api.ErrHandle)
	wantNoRevive(t, m, a, api.ErrTime)
}

func TestReviveByHand(t *testing.T) {
	m := New(4)
	a, b := issue(t, m, 10, true, 5), issue(t, m, 20, false, 0)
	wantDrop(t, m, a)
	c := issue(t, m, 30, true, 6) // 0 2
	wantDrop(t, m, c)
	d := issue(t, m, 40, true, 7) // 0 3
	wantDrop(t, m, d)
	// Lasts 3 1, Serial 4; b lives.
	for _, r := range []struct {
		l    api.Listed
		want api.Errno
	}{
		{lst(0, 1, 20, true, 5, 0), api.ErrTime},
		{lst(9, 9, 20, false, 5, 99), api.ErrTime}, // that is named first
		{lst(1, 1, 21, false, 0, 0), api.ErrHandle},
		{lst(1, 2, 21, false, 0, 0), api.ErrHandle},
		{lst(1, 0, 21, false, 0, 0), api.ErrHandle},
		{lst(1, 1, 21, false, 5, 99), api.ErrHandle}, // likewise
		{lst(0, 0, 10, true, 5, 0), api.ErrHandle},
		{lst(0, -1, 10, true, 5, 0), api.ErrHandle},
		{lst(0, 4, 10, true, 5, 0), api.ErrHandle},
		{lst(0, math.MaxInt, 10, true, 5, 0), api.ErrHandle},
		{lst(0, math.MinInt, 10, true, 5, 0), api.ErrHandle},
		{lst(0, 1<<32+1, 10, true, 5, 0), api.ErrHandle},
		{lst(2, 1, 10, true, 5, 0), api.ErrHandle},
		{lst(2, 0, 10, true, 5, 0), api.ErrHandle},
		{lst(-1, 1, 10, true, 5, 0), api.ErrHandle},
		{lst(64, 1, 10, true, 5, 0), api.ErrHandle},
		{lst(1<<32, 1, 10, true, 5, 0), api.ErrHandle},
		{lst(math.MinInt, 1, 10, true, 5, 0), api.ErrHandle},
		{lst(math.MaxInt, 1, 10, true, 5, 0), api.ErrHandle},
		{lst(0, 1, 10, true, 5, 1), api.ErrArg},
		{lst(0, 1, 10, true, 5, -1), api.ErrArg},
		{lst(0, 1, 10, true, 5, 4), api.ErrArg},
		{lst(0, 1, 10, true, 5, 1<<32), api.ErrArg},
		{lst(0, 1, 10, true, 5, math.MaxInt), api.ErrArg},
		{lst(0, 1, 10, true, 5, math.MinInt), api.ErrArg},
		{lst(0, 1, 10, false, 5, 0), api.ErrArg},
		{lst(0, 1, 10, false, -1, 0), api.ErrArg},
		{lst(0, 1, 10, false, math.MinInt, 3), api.ErrArg},
	} {
		wantNoRevive(t, m, r.l, r.want)
	}
	// All others live, be they as they were issued or not.
	for _, l := range []api.Listed{a, c, d, lst(0, 2, 10, true, 5, 0), lst(0, 3, 11, true, 0, 2), lst(0, 1, -4, false, 0, 3), lst(0, 3, math.MinInt, true, math.MinInt, 0)} {
		wantRevive(t, m, l)
		wantNoRevive(t, m, l, api.ErrTime)
		wantTold(t, m, tale{4, 2, 4, []int{3, 1}, slices.SortedFunc(slices.Values([]api.Listed{b, l}), byTime)})
		wantDrop(t, m, l)
	}
}

func TestReviveOfAFullTable(t *testing.T) {
	m := New(2)
	a := issue(t, m, 1, true, 5)
	wantDrop(t, m, a)
	b, c := issue(t, m, 2, true, 6), issue(t, m, 3, true, 7)
	wantNoRevive(t, m, a, api.ErrFull)
	wantNoRevive(t, m, b, api.ErrFull) // that is named first
	wantNoRevive(t, m, lst(5, 5, 9, false, 9, 9), api.ErrFull)
	wantDrop(t, m, c)
	wantNoRevive(t, m, a, api.ErrHandle)
	wantDrop(t, m, b)
	wantRevive(t, m, a)
	wantRevive(t, m, c)
	wantNoRevive(t, m, b, api.ErrFull)
}

// TestAnIDOfAnOperationThatLives: also of a deletion, also if it was moved or revived; of one that was dropped it may be had again.
func TestAnIDOfAnOperationThatLives(t *testing.T) {
	m := New(5)
	a, b := issue(t, m, 1, true, 5), issue(t, m, 2, false, 0)
	c := issue(t, m, 3, true, 5)
	wantDrop(t, m, c)
	wantNoRevive(t, m, lst(2, 1, 9, true, 5, 0), api.ErrArg)
	wantNoRevive(t, m, lst(2, 1, 9, true, 5, 1), api.ErrArg)
	a = wantMove(t, m, a, 7)
	wantNoRevive(t, m, lst(2, 1, 9, true, 5, 0), api.ErrArg)
	wantDrop(t, m, b)
	wantRevive(t, m, lst(2, 1, 9, true, 5, 1))
	wantNoRevive(t, m, b, api.ErrArg)
	wantRevive(t, m, lst(1, 1, 2, true, 5, 2))
	wantDrop(t, m, lst(2, 1, 9, true, 5, 1))
	wantNoRevive(t, m, lst(2, 1, 9, true, 5, 2), api.ErrArg)
	wantRevive(t, m, lst(2, 1, 9, false, 0, 1))
	wantLive(t, m, a)
}

func TestMoveByHand(t *testing.T) {
	m := New(3)
	a, b := issue(t, m, 10, true, 5), issue(t, m, 20, false, 0)
	was := told(m)
	for _, r := range []struct {
		ref  api.Ref
		to   int
		want api.Errno
	}{
		{a.Ref, 20, api.ErrTime}, {b.Ref, 10, api.ErrTime},
		{api.Ref{Index: 2, Gen: 1}, 5, api.ErrHandle}, {api.Ref{Index: 2, Gen: 1}, 20, api.ErrHandle}, {api.Ref{Index: 2}, 5, api.ErrHandle},
		{api.Ref{}, 10, api.ErrHandle}, {api.Ref{Gen: 2}, 10, api.ErrHandle}, {api.Ref{Index: -1, Gen: 1}, 20, api.ErrHandle},
	} {
		if e := m.Move(r.ref, r.to); e != r.want {
			t.Errorf("P16.3: Move(%v, %d): %v; want %v", r.ref, r.to, e, r.want)
		}
		wantTold(t, m, was)
	}
	a = wantMove(t, m, a, 10) // its own time
	for _, to := range edges {
		a = wantMove(t, m, a, to)
		wantNoIssue(t, m, to, api.ErrTime)
	}
	a = wantMove(t, m, a, 30)
	c := wantIssue(t, m, lst(2, 1, 10, true, 1, 2)) // the time that it had
	wantMove(t, m, a, 15)
	wantDrop(t, m, c)
	wantMove(t, m, b, 10)
	wantDead(t, m, c.Ref)
}

// TestADroppedHandleLivesNeverByItself: whatever is issued in its slot.
func TestADroppedHandleLivesNeverByItself(t *testing.T) {
	m := New(2)
	issue(t, m, -1, true, 3)
	var gone []api.Listed
	for i := range 100 {
		l := wantIssue(t, m, lst(1, i+1, i, i%2 == 0, 0, i+1))
		for _, g := range gone {
			if _, ok := m.Find(g.Ref); ok {
				t.Fatalf("P16.2: Find(%v): true", g.Ref)
			}
			wantFree(t, m, g.Op.Time)
		}
		wantDrop(t, m, l)
		gone = append(gone, l)
	}
	for _, g := range gone {
		wantRevive(t, m, g)
		wantDrop(t, m, g)
	}
	wantIssue(t, m, lst(1, 101, 0, true, 4, 101))
}

func TestTwoTablesShareNothing(t *testing.T) {
	m, n := New(2), New(2)
	a := issue(t, m, 1, true, 5)
	wantTold(t, n, tale{capacity: 2})
	wantDead(t, n, a.Ref)
	wantFree(t, n, 1)
	wantIssue(t, n, lst(0, 1, 1, false, 0, 0))
	wantDrop(t, m, a)
	wantLive(t, n, lst(0, 1, 1, false, 0, 0))
}
