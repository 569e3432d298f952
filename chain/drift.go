package chain

import (
	"cmp"
	"slices"

	"whilom/api"
	"whilom/item"
)

// drift is an edit's way through the run: what is there at each time differs from what was there by an item more, or an item less, or both. Till its end the chain's meals and lives are those ahead of the edit.
type drift struct {
	c           *Chain
	report      api.Report
	extra, lack api.Took // never one and the same item
}

// turn is what an edit itself does at a time.
type turn struct {
	time int
	does func()
}

// drift is the way of an edit of which it is known what it changes of the present.
func (c *Chain) drift(change api.Change) *drift {
	return &drift{c: c, report: api.Report{Change: change}}
}

// found is an item that is taken, or may be.
func found(x api.Item) api.Took {
	return api.Took{Found: true, Item: x}
}

// walk goes all the way, with the edit's own turns on it.
func (d *drift) walk(turns ...turn) {
	slices.SortFunc(turns, func(a, b turn) int { return cmp.Compare(a.time, b.time) })
	place := 0
	for _, t := range turns {
		d.pass(place, d.c.meals.Rank(mealAt(t.time)))
		t.does()
		place = d.behind(t.time)
	}
	d.pass(place, d.c.meals.Len())
}

// behind is the place of the first deletion behind a time.
func (d *drift) behind(time int) int {
	place := d.c.meals.Rank(mealAt(time))
	if _, there := d.c.Took(time); there {
		place++
	}
	return place
}

// pass passes the deletions of some places: it stays at those alone that take something else now.
func (d *drift) pass(place, to int) {
	for {
		place = d.next(place)
		if place < 0 || place >= to {
			return
		}
		m, _ := d.c.meals.At(place)
		d.step(m.Op.Time, m.Took, d.eat(m))
		place++
	}
}

// next is the place of the first deletion from one on that takes something else now; -1, if there is none.
func (d *drift) next(place int) int {
	// Ahead of its eater nobody took anything behind the item that is missing: so one more that is ahead of it is taken first, and one that is behind it isn't.
	if d.extra.Found && (!d.lack.Found || isAhead(d.extra, d.lack)) {
		return d.c.meals.First(place, func(_, of meals) bool { return of.Above(d.extra.Item) })
	}
	if !d.lack.Found {
		return -1
	}
	eater, ok := d.c.Eater(d.lack.Item)
	if !ok {
		return -1
	}
	return d.c.meals.Rank(mealAt(eater))
}

// eat is what a deletion takes that takes something else now.
func (d *drift) eat(m meal) api.Took {
	if d.lack.Found && m.Took == d.lack {
		d.lack = api.Took{}
		return d.take(m.Op.Time)
	}
	x := d.extra
	d.extra = m.Took
	return x
}

// step notes that a deletion takes something else.
func (d *drift) step(time int, old, now api.Took) {
	if old != now {
		d.report.Steps = append(d.report.Steps, api.Step{Time: time, Old: old, New: now})
	}
}

// gain notes that an item is there from now on, which wasn't.
func (d *drift) gain(x api.Took) {
	if x == d.lack {
		d.lack = api.Took{}
	} else {
		d.extra = x
	}
}

// lose notes that an item isn't there from now on, which was.
func (d *drift) lose(x api.Took) {
	if x == d.extra {
		d.extra = api.Took{}
	} else {
		d.lack = x
	}
}

// take takes the least item of those that were left at a time, and the one more.
func (d *drift) take(time int) api.Took {
	x := d.left(time)
	if d.extra.Found && (!x.Found || isAhead(d.extra, x)) {
		x = d.extra
	}
	d.lose(x)
	return x
}

// left is the least item that was left at a time; not Found either, if that one stays in the present, since an item more is taken then.
func (d *drift) left(time int) api.Took {
	// Of those that were left the least one was taken first: by the first deletion behind that took an item inserted ahead.
	early := func(_, of meals) bool { return of.some() && of.since < time }
	if place := d.c.meals.First(d.behind(time), early); place >= 0 {
		m, _ := d.c.meals.At(place)
		return m.Took
	}
	// If none was taken, they were all in the present, and if the least one is taken now, then it is the one that leaves it.
	if len(d.report.Out) == 0 {
		return api.Took{}
	}
	return found(d.report.Out[0])
}

// isAhead tells whether an item is ahead of another one.
func isAhead(x, y api.Took) bool {
	return item.Compare(x.Item, y.Item) < 0
}
