package chain

import (
	"slices"

	"whilom/api"
	"whilom/shelf"
	"whilom/wave"
)

// meal is a deletion, and when the item was inserted that it takes, if it takes one.
type meal struct {
	wave.Mark
	since int
}

// meals is what deletions come to; since is the earliest time at which one of the items was inserted that they take, if they take one.
type meals struct {
	wave.Swell
	since int
}

// life is an item, the time of its eater, if it has one, and when it was inserted.
type life struct {
	shelf.Slot
	since int
}

// mealAt is a meal by which that of a time is looked for.
func mealAt(time int) meal {
	return meal{Mark: wave.Key(time)}
}

// lifeOf is a life by which that of an item is looked for.
func lifeOf(x api.Item) life {
	return life{Slot: shelf.Of(x)}
}

// Compare orders meals by time.
func (m meal) Compare(o meal) int {
	return m.Mark.Compare(o.Mark)
}

// Sum is what a meal alone comes to.
func (m meal) Sum() meals {
	return meals{m.Mark.Sum(), m.since}
}

// Plus is what meals and others behind them come to.
func (s meals) Plus(o meals) meals {
	since := s.since
	if o.some() && (!s.some() || o.since < since) {
		since = o.since
	}
	return meals{s.Swell.Plus(o.Swell), since}
}

// some tells whether one of them takes an item: since says nothing, if none does.
func (s meals) some() bool {
	return s.Deletes != s.Free
}

// Compare orders lives by their items.
func (l life) Compare(o life) int {
	return l.Slot.Compare(o.Slot)
}

// settle writes down what is reported of items and deletions.
func (c *Chain) settle(r api.Report) {
	// Who has no eater any more is in the present; whoever has another one is in the steps.
	for _, x := range r.In {
		l, _ := c.lives.Find(lifeOf(x))
		l.Slot = shelf.Of(x)
		c.lives.Put(l)
	}
	for _, s := range r.Steps {
		c.serve(s.Time, s.New)
	}
}

// serve writes down what a deletion takes.
func (c *Chain) serve(time int, x api.Took) {
	m := mealAt(time)
	m.Took = x
	if x.Found {
		l, _ := c.lives.Find(lifeOf(x.Item))
		l.Eaten, l.Time = true, time
		c.lives.Put(l)
		m.since = l.since
	}
	c.meals.Put(m)
}

// op is the operation of a time.
func (c *Chain) op(time int) (api.Op, bool) {
	m, ok := c.queue.Marks().Find(wave.Key(time))
	return m.Op, ok
}

// add adds an operation to the queue and to the past, which refuse the same ones.
func (c *Chain) add(o api.Op) (api.Change, api.Errno) {
	if o.Insert {
		c.past.Insert(o.Time, o.Item)
		return c.queue.Insert(o.Time, o.Item)
	}
	c.past.Delete(o.Time)
	return c.queue.Delete(o.Time)
}

// drop revokes an operation of both.
func (c *Chain) drop(time int) (api.Change, api.Errno) {
	c.past.Revoke(time)
	return c.queue.Revoke(time)
}

// both is what two edits, one behind the other, change of the present.
func both(a, b api.Change) api.Change {
	c := api.Change{In: slices.Concat(a.In, b.In), Out: slices.Concat(a.Out, b.Out)}
	// What left and entered again hasn't changed.
	if slices.Equal(c.In, c.Out) {
		return api.Change{}
	}
	return c
}
