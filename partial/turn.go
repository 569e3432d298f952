package partial

import (
	"whilom/api"
	"whilom/bridge"
	"whilom/shelf"
	"whilom/wave"
)

// refusal is why no operation can be added at a time.
func (q *Queue) refusal(time int) api.Errno {
	if q.Len() == q.capacity {
		return api.ErrFull
	}
	if _, taken := q.marks.Find(wave.Key(time)); taken {
		return api.ErrTime
	}
	return api.OK
}

// inserted tells whether an operation inserts an item.
func (q *Queue) inserted(x api.Item) bool {
	_, here := q.present.Find(shelf.Of(x))
	_, gone := q.gone.Find(shelf.Of(x))
	return here || gone
}

// bridgeUpTo is the last bridge up to a place; -1, if there is none.
func (q *Queue) bridgeUpTo(place int) int {
	return bridge.Prior(q.marks, place, q.Excess())
}

// bridgeFrom is the first bridge from a place on. There is one: the end of all marks.
func (q *Queue) bridgeFrom(place int) int {
	return bridge.Next(q.marks, place, q.Excess())
}

// giveBack puts the greatest item that is gone, of those from a bridge on, into the present.
func (q *Queue) giveBack(from int) api.Change {
	// Without a bridge it is one of those that were there ahead of all time.
	if from < 0 {
		return api.Change{}
	}
	best := bridge.Best(q.marks, from)
	slot := shelf.Of(best.Item)
	// Of those from there on it alone is so great. (Marks ahead of them may have greater ones: what is asked must hold of both together, too.)
	asGreat := func(_, of wave.Swell) bool { return of.Gone.Found && shelf.Of(of.Gone.Item).Compare(slot) >= 0 }
	q.turn(q.marks.First(from, asGreat), true)
	q.gone.Drop(slot)
	q.present.Put(slot)
	return api.Change{In: []api.Item{best.Item}}
}

// takeAway takes the least item that is in the present, of those ahead of a bridge, out of it.
func (q *Queue) takeAway(to int) api.Change {
	least := bridge.Least(q.marks, to)
	// Where none is, it is one of those that were there ahead of all time.
	if !least.Found {
		return api.Change{}
	}
	slot := shelf.Of(least.Item)
	asSmall := func(_, of wave.Swell) bool { return of.Least.Found && shelf.Of(of.Least.Item).Compare(slot) <= 0 }
	q.turn(q.marks.Last(to, asSmall), false)
	q.present.Drop(slot)
	q.gone.Put(slot)
	return api.Change{Out: []api.Item{least.Item}}
}

// turn notes at a place's mark whether its item is here.
func (q *Queue) turn(place int, here bool) {
	m, _ := q.marks.At(place)
	m.Here = here
	q.marks.Put(m)
}
