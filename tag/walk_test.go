package tag

import (
	"slices"
	"testing"

	"whilom/api"
)

// dice are numbers in no order, the same ones at each run.
type dice uint64

func (d *dice) below(n int) int {
	*d ^= *d << 13
	*d ^= *d >> 7
	*d ^= *d << 17
	return int(uint64(*d) % uint64(n))
}

// plain is a table as the chapter tells it, without a thought for how long a call takes: a list of what lives, in no order.
type plain struct {
	capacity, serial int
	lasts            []int
	live             []api.Listed
}

// where is the place of the first operation of which a thing holds.
func (p *plain) where(is func(l api.Listed) bool) int {
	return slices.IndexFunc(p.live, is)
}

func (p *plain) room(time int) api.Errno {
	if len(p.live) == p.capacity {
		return api.ErrFull
	}
	if p.where(func(l api.Listed) bool { return l.Op.Time == time }) >= 0 {
		return api.ErrTime
	}
	return api.OK
}

func (p *plain) issue(time int, insert bool, key int) (api.Listed, api.Errno) {
	if e := p.room(time); e != api.OK {
		return api.Listed{}, e
	}
	slot := 0
	for ; slot < len(p.lasts); slot++ {
		lives := p.where(func(l api.Listed) bool { return l.Ref.Index == slot }) >= 0
		if !lives && p.lasts[slot] < api.MaxGen {
			break
		}
	}
	if slot == len(p.lasts) {
		p.lasts = append(p.lasts, 0)
	}
	p.lasts[slot]++
	if !insert {
		key = 0
	}
	l := lst(slot, p.lasts[slot], time, insert, key, p.serial)
	p.serial++
	p.live = append(p.live, l)
	return l, api.OK
}

func (p *plain) find(r api.Ref) (api.Op, bool) {
	if i := p.where(func(l api.Listed) bool { return l.Ref == r }); i >= 0 {
		return p.live[i].Op, true
	}
	return api.Op{}, false
}

func (p *plain) at(time int) (api.Ref, bool) {
	if i := p.where(func(l api.Listed) bool { return l.Op.Time == time }); i >= 0 {
		return p.live[i].Ref, true
	}
	return api.Ref{}, false
}

func (p *plain) drop(r api.Ref) (api.Op, bool) {
	op, ok := p.find(r)
	p.live = slices.DeleteFunc(p.live, func(l api.Listed) bool { return l.Ref == r })
	return op, ok
}

func (p *plain) revive(x api.Listed) api.Errno {
	if e := p.room(x.Op.Time); e != api.OK {
		return e
	}
	if p.where(func(l api.Listed) bool { return l.Ref.Index == x.Ref.Index }) >= 0 {
		return api.ErrHandle
	}
	last := 0
	for slot, gen := range p.lasts {
		if slot == x.Ref.Index {
			last = gen
		}
	}
	if x.Ref.Gen < 1 || x.Ref.Gen > last {
		return api.ErrHandle
	}
	if x.Op.Item.ID < 0 || x.Op.Item.ID > p.serial-1 || !x.Op.Insert && x.Op.Item.Key != 0 {
		return api.ErrArg
	}
	if p.where(func(l api.Listed) bool { return l.Op.Item.ID == x.Op.Item.ID }) >= 0 {
		return api.ErrArg
	}
	p.live = append(p.live, x)
	return api.OK
}

func (p *plain) move(r api.Ref, to int) api.Errno {
	i := p.where(func(l api.Listed) bool { return l.Ref == r })
	if i < 0 {
		return api.ErrHandle
	}
	if j := p.where(func(l api.Listed) bool { return l.Op.Time == to }); j >= 0 && j != i {
		return api.ErrTime
	}
	p.live[i].Op.Time = to
	return api.OK
}

func (p *plain) told() tale {
	l := slices.Clone(p.live)
	slices.SortFunc(l, byTime)
	return tale{p.capacity, len(l), p.serial, p.lasts, l}
}

// act is a call with its arguments.
type act struct {
	call, time, key int
	insert          bool
	l               api.Listed
}

// both does one call on both tables, and tells whether they answer alike.
func (a act) both(m *Table, p *plain) bool {
	switch a.call {
	case 0:
		l, e := m.Issue(a.time, a.insert, a.key)
		x, f := p.issue(a.time, a.insert, a.key)
		return l == x && e == f
	case 1:
		op, ok := m.Drop(a.l.Ref)
		x, is := p.drop(a.l.Ref)
		return op == x && ok == is
	case 2:
		return m.Revive(a.l) == p.revive(a.l)
	case 3:
		return m.Move(a.l.Ref, a.time) == p.move(a.l.Ref, a.time)
	case 4:
		op, ok := m.Find(a.l.Ref)
		x, is := p.find(a.l.Ref)
		return op == x && ok == is
	}
	r, ok := m.At(a.time)
	x, is := p.at(a.time)
	return r == x && ok == is
}

// wantWhole holds what a table keeps to one another: what lives, by slots, times and IDs, and which slots are free.
func wantWhole(t *testing.T, m *Table) {
	t.Helper()
	if len(m.times) != len(m.live) || len(m.ids) != len(m.live) {
		t.Fatalf("P16.1: %d operations, %d times, %d IDs", len(m.live), len(m.times), len(m.ids))
	}
	for slot, l := range m.live {
		if l.Ref.Index != slot || m.times[l.Op.Time] != slot || m.ids[l.Op.Item.ID] != slot {
			t.Fatalf("P16.1: %v lives in the slot %d, its time in %d, its ID in %d", l, slot, m.times[l.Op.Time], m.ids[l.Op.Item.ID])
		}
	}
	for slot := range 64 * (len(m.free.words) + len(m.lasts)/64 + 1) {
		_, lives := m.live[slot]
		want := slot < len(m.lasts) && !lives && m.lasts[slot] < api.MaxGen
		got := slot/64 < len(m.free.words) && m.free.words[slot/64]>>(slot%64)&1 == 1
		if got != want || got && slot/64 < m.free.from {
			t.Fatalf("P16.2: the slot %d is free: %v; want %v", slot, got, want)
		}
	}
}

// goOn does calls of all kinds, and holds a table against a plain one behind each of them.
func goOn(t *testing.T, d *dice, m *Table, p *plain, times, calls int) {
	t.Helper()
	var gone []api.Listed
	for i := range calls {
		a := act{call: d.below(8), time: d.below(times), key: d.below(5) - 2, insert: d.below(3) > 0}
		if a.call > 5 {
			a.call = 0
		}
		switch {
		case len(p.live) > 0 && d.below(4) > 0 && a.call != 2:
			a.l = p.live[d.below(len(p.live))]
		case len(gone) > 0 && d.below(5) > 0:
			a.l = gone[d.below(len(gone))]
		default:
			a.l = lst(d.below(9)-1, d.below(6), d.below(times), d.below(2) == 0, d.below(2), d.below(p.serial+2)-1)
		}
		if a.call == 1 {
			if op, ok := p.find(a.l.Ref); ok {
				gone = append(gone, api.Listed{Ref: a.l.Ref, Op: op})
			}
		}
		if !a.both(m, p) {
			t.Fatalf("P16.2, P16.3: call %d, %v, is answered otherwise than by a plain table", i, a)
		}
		if got, want := told(m), p.told(); !got.same(want) {
			t.Fatalf("P16.1: behind call %d, %v: %v; want %v", i, a, got, want)
		}
		wantWhole(t, m)
	}
}

func TestAgainstAPlainTable(t *testing.T) {
	for seed := 1; seed <= 60; seed++ {
		d := dice(seed * 0x9E3779B9)
		capacity := []int{0, 1, 2, 3, 8, 40}[seed%6]
		times := []int{2, 6, 20, 100}[seed%4]
		goOn(t, &d, New(capacity), &plain{capacity: capacity}, times, 1500)
	}
}

// TestWalksFromAllKindsOfTables: of lasts with gaps, some of them used up, and of operations anywhere among them.
func TestWalksFromAllKindsOfTables(t *testing.T) {
	for seed := 1; seed <= 60; seed++ {
		d := dice(seed * 0x51ED2701)
		p := &plain{capacity: 1 + d.below(9), serial: 20}
		for range 1 + d.below(140) {
			p.lasts = append(p.lasts, []int{0, 1, 2, 3, api.MaxGen - 2, api.MaxGen - 1, api.MaxGen, api.MaxGen}[d.below(8)])
		}
		p.lasts = append(p.lasts, 1+d.below(3))
		for range 40 {
			slot := d.below(len(p.lasts))
			p.revive(lst(slot, max(p.lasts[slot]-d.below(3), 1), d.below(30), true, d.below(9), d.below(20)))
		}
		want := p.told()
		m, e := Make(p.capacity, p.serial, p.lasts, want.list)
		if e != api.OK || !told(m).same(want) {
			t.Fatalf("P16.4: seed %d: Make: %v", seed, e)
		}
		p.lasts = slices.Clone(p.lasts)
		goOn(t, &d, m, p, 30, 800)
	}
}

// TestThereAndBack: what is made of what a table tells goes on as the table does.
func TestThereAndBack(t *testing.T) {
	for seed := 1; seed <= 40; seed++ {
		d := dice(seed * 0x2545F491)
		capacity := []int{1, 3, 10, 70}[seed%4]
		p := &plain{capacity: capacity}
		m := New(capacity)
		for range 20 {
			goOn(t, &d, m, p, 90, 40)
			n, e := Make(m.Cap(), m.Serial(), m.Lasts(), m.List())
			if e != api.OK || !told(n).same(told(m)) {
				t.Fatalf("P16.4: seed %d: Make of what a table tells: %v", seed, e)
			}
			m = n
		}
	}
}

// TestAllShortScripts: all rows of four calls of a small world, against a plain table.
func TestAllShortScripts(t *testing.T) {
	acts := []act{
		{call: 0, time: 1, insert: true, key: 5}, {call: 0, time: 2, key: 5},
		{call: 1, l: lst(0, 1, 0, false, 0, 0)}, {call: 1, l: lst(1, 1, 0, false, 0, 0)}, {call: 1, l: lst(0, 2, 0, false, 0, 0)},
		{call: 2, l: lst(0, 1, 1, true, 5, 0)}, {call: 2, l: lst(1, 1, 2, false, 0, 1)}, {call: 2, l: lst(0, 2, 3, true, 5, 1)}, {call: 2, l: lst(0, 1, 3, false, 5, 0)},
		{call: 3, time: 1, l: lst(0, 1, 0, false, 0, 0)}, {call: 3, time: 2, l: lst(0, 1, 0, false, 0, 0)}, {call: 3, time: 3, l: lst(1, 1, 0, false, 0, 0)},
	}
	for capacity := 1; capacity <= 2; capacity++ {
		for script := range len(acts) * len(acts) * len(acts) * len(acts) * len(acts) {
			m, p := New(capacity), &plain{capacity: capacity}
			for rest := script; rest > 0; rest /= len(acts) {
				if a := acts[rest%len(acts)]; !a.both(m, p) {
					t.Fatalf("P16.2, P16.3: script %d: %v is answered otherwise than by a plain table", script, a)
				}
			}
			if got, want := told(m), p.told(); !got.same(want) {
				t.Fatalf("P16.1: script %d: %v; want %v", script, got, want)
			}
			for time := range 4 {
				if a := (act{call: 5, time: time}); !a.both(m, p) {
					t.Fatalf("P16.2: script %d: At(%d) is answered otherwise than by a plain table", script, time)
				}
			}
		}
	}
}

func TestAFullTableOfTheGreatestCapacity(t *testing.T) {
	m := New(api.MaxOps)
	for i := range api.MaxOps {
		if l, e := m.Issue(-i, i%3 > 0, i); e != api.OK || l.Ref != (api.Ref{Index: i, Gen: 1}) || l.Op.Item.ID != i {
			t.Fatalf("P16.2: Issue %d: %v, %v", i, l, e)
		}
	}
	wantNoIssue(t, m, 1, api.ErrFull)
	list := m.List()
	for i, l := range list {
		if l.Op.Time != i-api.MaxOps+1 {
			t.Fatalf("P16.1: List[%d]: %v", i, l)
		}
	}
	n := wantMade(t, api.MaxOps, api.MaxOps, m.Lasts(), list)
	wantWhole(t, n)
	wantUnmade(t, "one too many", api.MaxOps-1, api.MaxOps, m.Lasts(), list)
	wantUnmade(t, "one too many", api.MaxOps, api.MaxOps+1, append(m.Lasts(), 1), append(m.List(), lst(api.MaxOps, 1, 1, true, 0, api.MaxOps)))
	for i := range api.MaxOps {
		if i%2 == 0 {
			m.Drop(api.Ref{Index: (i * 7) % api.MaxOps, Gen: 1}) // 7 is odd: each even slot once
		}
	}
	for i := range api.MaxOps / 2 {
		if l, e := m.Issue(1+i, true, 0); e != api.OK || l.Ref != (api.Ref{Index: 2 * i, Gen: 2}) {
			t.Fatalf("P16.2: Issue in the slot %d: %v, %v", 2*i, l, e)
		}
	}
	wantNoIssue(t, m, 0, api.ErrFull)
	wantWhole(t, m)
}

// TestAGreatListOfLasts: only its last slots are free.
func TestAGreatListOfLasts(t *testing.T) {
	lasts := make([]int, 1<<20)
	for i := range lasts {
		lasts[i] = api.MaxGen
	}
	lasts[len(lasts)-2] = 0
	m, e := Make(100, 5, lasts, nil)
	if e != api.OK {
		t.Fatalf("P16.4: Make: %v", e)
	}
	for i := range 1000 {
		l, e := m.Issue(0, true, 0)
		if e != api.OK || l != lst(len(lasts)-2, i+1, 0, true, 0, 5+i) {
			t.Fatalf("P16.2: Issue: %v, %v", l, e)
		}
		m.Drop(l.Ref)
	}
	issue(t, m, 0, true, 0)
	if l, e := m.Issue(1, true, 0); e != api.OK || l.Ref != (api.Ref{Index: len(lasts), Gen: 1}) {
		t.Errorf("P16.2: Issue behind all slots: %v, %v", l, e)
	}
}
