package tag

import (
	"math"
	"slices"
	"testing"

	"whilom/api"
)

// wantMade makes a table, and holds it to what it is to tell.
func wantMade(t *testing.T, capacity, serial int, lasts []int, l []api.Listed) *Table {
	t.Helper()
	gens, list := slices.Clone(lasts), slices.Clone(l)
	m, e := Make(capacity, serial, lasts, l)
	if e != api.OK || m == nil {
		t.Fatalf("P16.4: Make(%d, %d, %v, %v): %v", capacity, serial, lasts, l, e)
	}
	if !slices.Equal(gens, lasts) || !slices.Equal(list, l) {
		t.Errorf("P16.5: Make changed what was handed in: %v, %v; want %v, %v", lasts, l, gens, list)
	}
	if got := told(m); !got.same(tale{capacity, len(l), serial, lasts, l}) {
		t.Errorf("P16.4: Make(%d, %d, %v, %v) tells %v", capacity, serial, lasts, l, got)
	}
	for _, x := range l {
		wantLive(t, m, x)
	}
	return m
}

// wantUnmade holds Make to it that there is no such table.
func wantUnmade(t *testing.T, why string, capacity, serial int, lasts []int, l []api.Listed) {
	t.Helper()
	gens, list := slices.Clone(lasts), slices.Clone(l)
	if m, e := Make(capacity, serial, lasts, l); e != api.ErrArg || m != nil {
		t.Errorf("P16.4: %s: Make(%d, %d, %v, %v): %v, %v; want nil, %v", why, capacity, serial, lasts, l, m != nil, e, api.ErrArg)
	}
	if !slices.Equal(gens, lasts) || !slices.Equal(list, l) {
		t.Errorf("P16.5: Make changed what was handed in: %v, %v; want %v, %v", lasts, l, gens, list)
	}
}

func TestMakeByHand(t *testing.T) {
	m := wantMade(t, 3, 9, []int{2, 0, 5, 1}, []api.Listed{lst(2, 3, -8, false, 0, 8), lst(0, 2, 6, true, -5, 0)})
	// The slots 1 and 3 are free, the first one of them was never used.
	wantNoIssue(t, m, 6, api.ErrTime)
	a := wantIssue(t, m, lst(1, 1, 7, true, 1, 9))
	wantNoIssue(t, m, 8, api.ErrFull)
	wantDrop(t, m, lst(2, 3, -8, false, 0, 8))
	wantIssue(t, m, lst(2, 6, 8, true, 1, 10))
	wantDrop(t, m, a)
	wantDrop(t, m, lst(0, 2, 6, true, -5, 0))
	wantIssue(t, m, lst(0, 3, 6, true, 1, 11))
	wantIssue(t, m, lst(1, 2, 5, true, 1, 12))
	wantDrop(t, m, lst(2, 6, 8, true, 1, 10))
	wantRevive(t, m, lst(3, 1, 9, true, 1, 3))
}

func TestMakeOfNothing(t *testing.T) {
	for _, capacity := range []int{0, 1, 65536} {
		for _, serial := range []int{0, 1, 1 << 40, math.MaxInt} {
			for _, lasts := range [][]int{nil, {}, {1}, {0, 4294967295}, {5, 0, 0, 7}} {
				m := wantMade(t, capacity, serial, lasts, nil)
				if capacity > 0 && serial < math.MaxInt {
					want := lst(0, 1, 4, true, 5, serial)
					if len(lasts) > 0 {
						want.Ref.Gen = lasts[0] + 1
					}
					wantIssue(t, m, want)
				} else if capacity == 0 {
					wantNoIssue(t, m, 4, api.ErrFull)
				}
			}
		}
	}
}

// TestMakeOfWrongNumbers: each row is wrong by one thing alone.
func TestMakeOfWrongNumbers(t *testing.T) {
	lasts := []int{2, 0, 5, 1}
	list := []api.Listed{lst(2, 3, -8, false, 0, 8), lst(0, 2, 6, true, -5, 0), lst(3, 1, 7, true, 0, 4)}
	wantMade(t, 3, 9, lasts, list)
	for _, n := range []int{math.MinInt, -1 << 32, -65536, -1, 0, 2, 65537, 1 << 17, 1 << 32, 1<<32 + 3, math.MaxInt} {
		wantUnmade(t, "the capacity", n, 9, lasts, list)
	}
	for _, n := range []int{math.MinInt, -1, 65537, math.MaxInt} {
		wantUnmade(t, "the capacity of nothing", n, 9, lasts, nil)
	}
	for _, n := range []int{math.MinInt, -1 << 32, -9, -1, 0, 1, 8} {
		wantUnmade(t, "the serial", 3, n, lasts, list)
	}
	for _, n := range []int{math.MinInt, -1 << 32, -1} {
		wantUnmade(t, "the serial of nothing", 3, n, lasts, nil)
	}
	for _, n := range []int{math.MinInt, -1 << 32, -1, 1 << 32, 1<<32 + 5, math.MaxInt} {
		for slot := range lasts {
			wrong := slices.Clone(lasts)
			wrong[slot] = n
			wantUnmade(t, "a last Gen", 3, 9, wrong, nil)
			wantUnmade(t, "a last Gen", 3, 9, wrong, list)
		}
	}
	for _, wrong := range [][]int{{0}, {0, 0}, {1, 0}, {2, 0, 5, 1, 0}, {4294967295, 0}} {
		wantUnmade(t, "the last one of the last Gens", 3, 9, wrong, nil)
	}
	for n := range len(lasts) {
		wantUnmade(t, "too few last Gens", 3, 9, lasts[:n], list)
	}
}

// TestMakeOfWrongOperations: likewise, in each place of the list.
func TestMakeOfWrongOperations(t *testing.T) {
	lasts := []int{2, 3, 5, 4}
	list := []api.Listed{lst(2, 3, -8, false, 0, 8), lst(0, 2, 6, true, -5, 0), lst(3, 1, 7, true, 0, 4)}
	right := func(i int, f func(l *api.Listed)) {
		t.Helper()
		l := slices.Clone(list)
		f(&l[i])
		wantMade(t, 3, 9, lasts, l)
	}
	wrong := func(why string, i int, f func(l *api.Listed)) {
		t.Helper()
		l := slices.Clone(list)
		f(&l[i])
		wantUnmade(t, why, 3, 9, lasts, l)
	}
	for i := range list {
		right(i, func(l *api.Listed) { l.Ref = api.Ref{Index: 1, Gen: 3} })
		right(i, func(l *api.Listed) { l.Op.Item.ID = 7 })
		right(i, func(l *api.Listed) { l.Op.Insert, l.Op.Item.Key = true, math.MinInt })
		right(i, func(l *api.Listed) { l.Op.Insert, l.Op.Item.Key = false, 0 })
		for _, key := range []int{math.MinInt, -1, 1, 1 << 32, math.MaxInt} {
			wrong("a deletion's Key", i, func(l *api.Listed) { l.Op.Insert, l.Op.Item.Key = false, key })
		}
		for _, id := range []int{math.MinInt, -1 << 32, -1, 9, 10, 1 << 32, math.MaxInt} {
			wrong("an ID", i, func(l *api.Listed) { l.Op.Item.ID = id })
		}
		for _, slot := range []int{math.MinInt, -1 << 32, -1, 4, 5, 64, 1 << 32, math.MaxInt} {
			wrong("a slot", i, func(l *api.Listed) { l.Ref = api.Ref{Index: slot, Gen: 1} })
		}
		for _, gen := range []int{math.MinInt, -1 << 32, -1, 0, 4, 5, 1 << 32, 1<<32 + 1, math.MaxInt} {
			wrong("a Gen", i, func(l *api.Listed) { l.Ref = api.Ref{Index: 1, Gen: gen} })
		}
		for j := range list {
			if i != j {
				wrong("one slot, another Gen", i, func(l *api.Listed) { l.Ref = api.Ref{Index: list[j].Ref.Index, Gen: 1 + list[j].Ref.Gen%2} })
				wrong("one slot, one Gen", i, func(l *api.Listed) { l.Ref = list[j].Ref })
				wrong("one ID", i, func(l *api.Listed) { l.Op.Item.ID = list[j].Op.Item.ID })
				wrong("one time", i, func(l *api.Listed) { l.Op.Time = list[j].Op.Time })
			}
		}
	}
	wrong("the order of time", 0, func(l *api.Listed) { l.Op.Time = 8 })
	wrong("the order of time", 1, func(l *api.Listed) { l.Op.Time = -9 })
	wrong("the order of time", 1, func(l *api.Listed) { l.Op.Time = 8 })
	wrong("the order of time", 2, func(l *api.Listed) { l.Op.Time = math.MinInt })
	right(0, func(l *api.Listed) { l.Op.Time = math.MinInt })
	right(2, func(l *api.Listed) { l.Op.Time = math.MaxInt })
	for _, p := range [][]int{{0, 2, 1}, {1, 0, 2}, {1, 2, 0}, {2, 0, 1}, {2, 1, 0}} {
		wantUnmade(t, "the order of time", 3, 9, lasts, []api.Listed{list[p[0]], list[p[1]], list[p[2]]})
	}
}

// TestMakeOfTimesFarApart: an order that is told by a difference would be another one.
func TestMakeOfTimesFarApart(t *testing.T) {
	lasts := []int{1, 1}
	for i, from := range edges {
		for j, to := range edges {
			l := []api.Listed{lst(0, 1, from, true, 1, 0), lst(1, 1, to, true, 1, 1)}
			if i < j {
				wantMade(t, 2, 2, lasts, l)
			} else {
				wantUnmade(t, "the order of time", 2, 2, lasts, l)
			}
		}
	}
}

// TestUsedUpGens: a slot whose last Gen is the greatest one isn't free, but what was dropped of it lives again.
func TestUsedUpGens(t *testing.T) {
	m := wantMade(t, 4, 10, []int{4294967295, 4294967294, 4294967295}, []api.Listed{lst(0, 4294967295, 5, true, 5, 9)})
	a := wantIssue(t, m, lst(1, 4294967295, 6, true, 1, 10))
	b := wantIssue(t, m, lst(3, 1, 7, true, 1, 11))
	wantDrop(t, m, a)
	wantDrop(t, m, lst(0, 4294967295, 5, true, 5, 9))
	c := wantIssue(t, m, lst(4, 1, 8, true, 1, 12))
	wantRevive(t, m, a)
	wantRevive(t, m, lst(2, 4294967295, 9, true, 1, 0))
	wantNoIssue(t, m, 99, api.ErrFull)
	wantDrop(t, m, lst(2, 4294967295, 9, true, 1, 0))
	wantNoRevive(t, m, lst(2, 4294967296, 9, true, 1, 0), api.ErrHandle)
	d := wantIssue(t, m, lst(5, 1, 10, true, 1, 13))
	wantDrop(t, m, a)
	wantDrop(t, m, b)
	wantRevive(t, m, lst(0, 1, 5, false, 0, 9)) // an early Gen
	wantDrop(t, m, lst(0, 1, 5, false, 0, 9))
	wantIssue(t, m, lst(3, 2, 11, true, 1, 14))
	wantLive(t, m, c)
	wantLive(t, m, d)
	if got := m.Lasts(); !slices.Equal(got, []int{api.MaxGen, api.MaxGen, api.MaxGen, 2, 1, 1}) {
		t.Errorf("P16.1: Lasts %v", got)
	}
}

// TestGapsOfLasts: slots that were never used, but lie ahead of ones that were, are free.
func TestGapsOfLasts(t *testing.T) {
	lasts := make([]int, 300)
	lasts[299] = 4
	for i := 0; i < 299; i += 3 {
		lasts[i] = api.MaxGen
	}
	m := wantMade(t, 400, 0, lasts, nil)
	serial := 0
	for slot := range 320 {
		switch {
		case slot == 299:
			wantIssue(t, m, lst(slot, 5, slot, true, 0, serial))
			serial++
		case slot > 299 || slot%3 != 0:
			wantIssue(t, m, lst(slot, 1, slot, true, 0, serial))
			serial++
		}
	}
}

// TestTheGreatestSerial: IDs are numbers of 64 bits.
func TestTheGreatestSerial(t *testing.T) {
	m := wantMade(t, 3, math.MaxInt, []int{7}, []api.Listed{lst(0, 7, 5, true, 5, math.MaxInt-1)})
	wantNoRevive(t, m, lst(0, 6, 6, true, 5, math.MaxInt-1), api.ErrHandle)
	if l, e := m.Issue(6, true, 5); e != api.OK || l != lst(1, 1, 6, true, 5, math.MaxInt) {
		t.Errorf("P16.2: Issue with the greatest serial: %v, %v", l, e)
	}
	n := wantMade(t, 3, math.MaxInt-1, nil, nil)
	wantIssue(t, n, lst(0, 1, 6, true, 5, math.MaxInt-1))
}

// world are all operations of a small world, handles and IDs that can't be among them.
func world(slots, gens, ids []int) []api.Listed {
	var ops []api.Listed
	for _, slot := range slots {
		for _, gen := range gens {
			for _, id := range ids {
				for k := range 6 {
					ops = append(ops, lst(slot, gen, k%2, k < 2, k/4, id))
				}
			}
		}
	}
	return ops
}

// TestMakeOfASmallWorld: all lists of up to two operations of small worlds, against the chapter's words.
func TestMakeOfASmallWorld(t *testing.T) {
	ones, twos := world([]int{-1, 0, 1, 2}, []int{-1, 0, 1, 2, 3}, []int{-1, 0, 1, 2}), world([]int{0, 1, 2}, []int{0, 1, 2}, []int{0, 1, 2})
	made := 0
	for _, lasts := range [][]int{nil, {1}, {0, 2}, {2, 1}, {1, 0}} {
		for serial := range 3 {
			for capacity := range 3 {
				for _, a := range ones {
					made += againstWords(t, capacity, serial, lasts, []api.Listed{a})
				}
				for _, a := range twos {
					for _, b := range twos {
						made += againstWords(t, capacity, serial, lasts, []api.Listed{a, b})
					}
				}
			}
		}
	}
	// Counted by hand: 144 of one operation, 32 of two.
	if made != 176 {
		t.Errorf("P16.4: %d tables of the small world can be; want 176", made)
	}
}

// againstWords holds Make to the chapter's words: 1, if there is such a table.
func againstWords(t *testing.T, capacity, serial int, lasts []int, l []api.Listed) int {
	t.Helper()
	m, e := Make(capacity, serial, lasts, l)
	if !canBe(capacity, serial, lasts, l) {
		if m != nil || e != api.ErrArg {
			t.Fatalf("P16.4: Make(%d, %d, %v, %v): %v; want %v", capacity, serial, lasts, l, e, api.ErrArg)
		}
		return 0
	}
	if e != api.OK || m == nil || !told(m).same(tale{capacity, len(l), serial, lasts, l}) {
		t.Fatalf("P16.4: Make(%d, %d, %v, %v): %v", capacity, serial, lasts, l, e)
	}
	return 1
}

// canBe is whether there is such a table, said word by word.
func canBe(capacity, serial int, lasts []int, l []api.Listed) bool {
	if capacity < 0 || capacity > 65536 || serial < 0 || len(l) > capacity {
		return false
	}
	for i, gen := range lasts {
		if gen < 0 || gen > 4294967295 || gen == 0 && i == len(lasts)-1 {
			return false
		}
	}
	for i, x := range l {
		if x.Ref.Index < 0 || x.Ref.Index >= len(lasts) || x.Ref.Gen < 1 || x.Ref.Gen > lasts[x.Ref.Index] {
			return false
		}
		if x.Op.Item.ID < 0 || x.Op.Item.ID >= serial || !x.Op.Insert && x.Op.Item.Key != 0 {
			return false
		}
		for _, y := range l[:i] {
			if y.Op.Time >= x.Op.Time || y.Ref.Index == x.Ref.Index || y.Op.Item.ID == x.Op.Item.ID {
				return false
			}
		}
	}
	return true
}

// TestAnswersAreNewMemory: what is done to them, their spare room included, the table doesn't feel.
func TestAnswersAreNewMemory(t *testing.T) {
	m := New(9)
	for i := range 5 {
		issue(t, m, i, true, i)
	}
	was := told(m)
	lasts, list := m.Lasts(), m.List()
	for i := range lasts[:cap(lasts)] {
		lasts[:cap(lasts)][i] = -1
	}
	for i := range list[:cap(list)] {
		list[:cap(list)][i] = lst(-1, -1, -1, false, -1, -1)
	}
	wantTold(t, m, was)
	kept, ops := m.Lasts(), m.List()
	more := append(kept, -7)
	issue(t, m, 50, true, 1)
	issue(t, m, 51, true, 1)
	wantDrop(t, m, was.list[0])
	wantIssue(t, m, lst(0, 2, 0, true, 0, 7))
	wantMove(t, m, was.list[1], 60)
	if !slices.Equal(kept, was.lasts) || !slices.Equal(ops, was.list) || more[5] != -7 {
		t.Errorf("P16.5: answers became %v, %v; want %v, %v", more, ops, was.lasts, was.list)
	}
}

// TestArgumentsAreNotKept: neither a table nor what it was made of feels the other.
func TestArgumentsAreNotKept(t *testing.T) {
	lasts := []int{1, 2, 3, 77, 78, 79}
	list := []api.Listed{lst(0, 1, 1, true, 5, 0), lst(2, 3, 2, false, 0, 1), lst(7, 7, 7, true, 7, 7)}
	m := wantMade(t, 9, 4, lasts[:3], list[:2])
	was := told(m)
	for i := range lasts {
		lasts[i] = 1000 + i
	}
	for i := range list {
		list[i] = lst(50+i, 50, 50, true, 50, 50)
	}
	wantTold(t, m, was)
	wantIssue(t, m, lst(1, 3, 9, true, 5, 4))
	wantIssue(t, m, lst(3, 1, 10, true, 5, 5))
	wantMove(t, m, lst(0, 1, 1, true, 5, 0), 8)
	if !slices.Equal(lasts, []int{1000, 1001, 1002, 1003, 1004, 1005}) || list[0] != lst(50, 50, 50, true, 50, 50) || list[2] != lst(52, 50, 50, true, 50, 50) {
		t.Errorf("P16.5: what was handed in became %v, %v", lasts, list)
	}
}
