package line

import (
	"slices"
	"testing"

	"whilom/api"
)

// timelines are all legal ones of n operations at the times 10, 20 .., and of all orders in which their items may be; their handles are in another order than their times.
func timelines(d *dice, n int) [][]api.Listed {
	lists := [][]api.Listed{nil}
	for i := range n {
		var longer [][]api.Listed
		for _, l := range lists {
			longer = append(longer, append(slices.Clone(l), lst(0, 1, 10*i+10, false, 0, 0)))
			for k := range i + 1 {
				m := append(slices.Clone(l), lst(0, 1, 10*i+10, true, 10*k+10, 0))
				// Of each item there is one: it is laid in between, and those behind it are farther on.
				for j := range i {
					if m[j].Op.Insert && m[j].Op.Item.Key >= 10*k+10 {
						m[j].Op.Item.Key += 10
					}
				}
				longer = append(longer, m)
			}
		}
		lists = slices.DeleteFunc(longer, func(l []api.Listed) bool { return !run(l).legal })
	}
	for _, l := range lists {
		for i, j := range shuffled(d, n) {
			l[i].Ref.Index, l[i].Op.Item.ID = j, j
		}
	}
	return lists
}

// shuffled are the numbers below n in another order.
func shuffled(d *dice, n int) []int {
	l := make([]int, n)
	for i := range l {
		j := d.below(i + 1)
		l[i], l[j] = l[j], i
	}
	return l
}

// madeOf is a timeline of operations that have a slot each, with room for some more.
func madeOf(t *testing.T, list []api.Listed, more int) both {
	t.Helper()
	lasts := make([]int, len(list))
	for i := range lasts {
		lasts[i] = 1
	}
	return makes(t, len(list)+more, len(list), lasts, list)
}

// reverse is the report of what takes an edit back that was reported; of a move with the moved operation's times.
func reverse(r api.Report, time, to int) api.Report {
	v := api.Report{Change: api.Change{In: r.Out, Out: r.In}}
	for _, s := range r.Steps {
		if s.Time == to {
			s.Time = time
		}
		v.Steps = append(v.Steps, api.Step{Time: s.Time, Old: s.New, New: s.Old})
	}
	slices.SortFunc(v.Steps, func(a, b api.Step) int { return a.Time - b.Time })
	return v
}

// there does an edit, and takes it back, if it went well: all is as it was then, but for the serial and the Gens.
func (b both) there(t *testing.T, a act) {
	t.Helper()
	was := slices.Clone(b.p.live)
	i := b.p.where(a.x.Ref)
	r := b.do(t, a)
	b.handled(t)
	if r.e != api.OK {
		b.tabled(t)
		return
	}
	back, time := act{kind: "revoke", x: api.Listed{Ref: r.ref}}, 0
	switch a.kind {
	case "revoke":
		back = act{kind: "revive", x: was[i]}
	case "move":
		time = was[i].Op.Time
		back = act{kind: "move", time: time, x: was[i]}
	}
	s := b.do(t, back)
	if want := reverse(r.report, time, a.time); s.e != api.OK || !same(s.report, want) {
		t.Fatalf("P17.5: %v of %v: %v; taken back: %v, %v; want %v", a, was, r.report, s.report, s.e, want)
	}
	if !slices.Equal(b.p.live, was) {
		t.Fatalf("P17.2: %v of %v, taken back: %v", a, was, b.p.live)
	}
	b.tabled(t)
}

func TestAllEditsOfAllShortTimelines(t *testing.T) {
	d := dice(17)
	for n := range 6 {
		for _, list := range timelines(&d, n) {
			b := madeOf(t, list, 1)
			b.all(t)
			for i := range n + 1 {
				time := 10*i + 5
				b.there(t, act{kind: "delete", time: time})
				b.there(t, act{kind: "delete", time: time + 5})
				for k := range n + 1 {
					b.there(t, act{kind: "insert", time: time, key: 10*k + 5})
				}
				for _, x := range list {
					b.there(t, act{kind: "move", time: time, x: x})
					b.there(t, act{kind: "move", time: time + 5, x: x})
				}
			}
			for _, x := range list {
				b.there(t, act{kind: "revoke", x: x})
			}
			b.all(t)
		}
	}
}

func TestAllMovesInTimelinesOfSix(t *testing.T) {
	d := dice(18)
	for _, list := range timelines(&d, 6) {
		b := madeOf(t, list, 0)
		for _, x := range list {
			for time := 5; time <= 65; time += 10 {
				b.there(t, act{kind: "move", time: time, x: x})
			}
		}
		b.handled(t)
	}
}

// TestAllShortScripts: all rows of four edits of a small world.
func TestAllShortScripts(t *testing.T) {
	first, second := lst(0, 1, 1, true, 5, 0), lst(1, 1, 2, false, 0, 1)
	acts := []act{
		{kind: "insert", time: 1, key: 5}, {kind: "insert", time: 0, key: 3}, {kind: "delete", time: 2}, {kind: "delete", time: 1},
		{kind: "revoke", x: first}, {kind: "revoke", x: second}, {kind: "revoke", x: lst(0, 2, 0, true, 0, 0)},
		{kind: "move", time: 3, x: first}, {kind: "move", time: 0, x: second}, {kind: "move", time: 2, x: first},
		{kind: "revive", x: first}, {kind: "revive", x: second}, {kind: "revive", x: lst(1, 1, 3, false, 0, 0)},
	}
	n := len(acts)
	for capacity := 1; capacity <= 3; capacity++ {
		for script := range n * n * n * n {
			b := begin(t, capacity)
			for rest := script; rest > 0; rest /= n {
				b.do(t, acts[rest%n])
			}
			b.tabled(t)
			b.handled(t)
			if script%7 == 0 {
				b.all(t)
			}
		}
	}
}

// world is what random edits are made of.
type world struct {
	times, keys, edits       []int
	inserts, deletes, revive int // of a hundred; the others revoke and move, half and half
}

// some is one of a list.
func some(d *dice, l []int) int {
	return l[d.below(len(l))]
}

// wander makes edits that look random, and holds all that is told against the plain timeline.
func (b both) wander(t *testing.T, d *dice, w world, edits int) {
	t.Helper()
	var gone []api.Listed
	for i := range edits {
		a := act{time: some(d, w.times), key: some(d, w.keys)}
		// Most of what is revoked or moved lives, and most of what is revived doesn't, but did.
		a.x = lst(d.below(9)-1, d.below(4), some(d, w.times), d.below(2) == 0, d.below(2), d.below(b.p.serial+2)-1)
		if len(b.p.live) > 0 && d.below(9) > 0 {
			a.x = b.p.live[d.below(len(b.p.live))]
		}
		switch kind := d.below(100); {
		case kind < w.inserts:
			a.kind = "insert"
		case kind < w.inserts+w.deletes:
			a.kind = "delete"
		case kind < w.inserts+w.deletes+w.revive:
			a.kind = "revive"
			if len(gone) > 0 && d.below(9) > 0 {
				a.x = gone[d.below(len(gone))]
			}
		case kind%2 == 0:
			a.kind = "revoke"
		default:
			a.kind = "move"
		}
		if r := b.do(t, a); r.e == api.OK && a.kind == "revoke" {
			gone = append(gone, a.x)
		}
		b.tabled(t)
		b.handled(t)
		b.timed(t, some(d, w.times))
		if i%25 == 0 {
			b.all(t)
		}
	}
	b.all(t)
}

// spread are numbers from one on, so many.
func spread(from, n int) []int {
	l := make([]int, n)
	for i := range l {
		l[i] = from + i
	}
	return l
}

func TestLongWalks(t *testing.T) {
	d := dice(20261120)
	for _, capacity := range []int{0, 1, 3, 10, 40} {
		for _, w := range []world{{inserts: 25, deletes: 20, revive: 10}, {inserts: 35, deletes: 30, revive: 5}, {inserts: 15, deletes: 40, revive: 20}, {inserts: 50, deletes: 10, revive: 10}, {inserts: 10, deletes: 10, revive: 20}} {
			w.times, w.keys = spread(-capacity, 2*capacity+2), spread(-3, 7+capacity/4)
			b := begin(t, capacity)
			b.wander(t, &d, w, 700)
		}
	}
}

// TestWalksAtTheEdges of times and keys.
func TestWalksAtTheEdges(t *testing.T) {
	d := dice(64)
	for range 40 {
		b := begin(t, 7)
		b.wander(t, &d, world{times: edges, keys: edges, inserts: 25, deletes: 25, revive: 10}, 150)
	}
}

// TestThereAndBack: a timeline that is made of a table that tells what another one's does, goes on as that one.
func TestThereAndBack(t *testing.T) {
	d := dice(5)
	w := world{times: spread(0, 40), keys: spread(0, 9), inserts: 25, deletes: 20, revive: 10}
	for range 10 {
		b := begin(t, 20)
		for range 8 {
			b.wander(t, &d, w, 40)
			m := b.l.Tags()
			c := makes(t, m.Cap(), m.Serial(), m.Lasts(), m.List())
			c.all(t)
			// Neither feels what is done to the other one.
			b.wander(t, &d, w, 10)
			c.wander(t, &d, w, 10)
			b.all(t)
			b = c
		}
	}
}

// TestWalksFromAllKindsOfTables: of Gens that are used up, of slots that weren't used, of operations anywhere among them.
func TestWalksFromAllKindsOfTables(t *testing.T) {
	d := dice(99)
	for range 40 {
		n := d.below(12)
		list := timelines(&d, 4)[d.below(20)]
		lasts := make([]int, 5+n)
		for i := range lasts {
			lasts[i] = []int{0, 1, 2, 3, api.MaxGen - 1, api.MaxGen}[d.below(6)]
		}
		lasts = append(lasts, 1)
		for i := range list {
			slot := list[i].Ref.Index + d.below(n+1)*d.below(2)
			for slices.ContainsFunc(list[:i], func(x api.Listed) bool { return x.Ref.Index == slot }) {
				slot = (slot + 1) % len(lasts)
			}
			lasts[slot] = max(lasts[slot], 1)
			list[i].Ref = api.Ref{Index: slot, Gen: 1 + d.below(min(lasts[slot], 3))}
		}
		b := makes(t, 4+d.below(8), 4+d.below(1000), lasts, list)
		b.all(t)
		b.wander(t, &d, world{times: spread(0, 60), keys: spread(0, 9), inserts: 25, deletes: 25, revive: 20}, 200)
	}
}
