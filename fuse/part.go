package fuse

import (
	"slices"

	"whilom/api"
	"whilom/grove"
	"whilom/item"
	"whilom/shelf"
)

// part is a shelf's items from a place on. A view loses its least items alone, and so does each of its parts: no part has another end than its shelf's.
type part struct {
	slots *grove.Tree[shelf.Slot, shelf.Size]
	from  int
}

// len is how many items a part has.
func (p part) len() int {
	// The queue may have been edited since, and its shelf be shorter: the view doesn't hold then, but no call panics.
	return max(p.slots.Len()-p.from, 0)
}

// has tells whether an item is one of a part's.
func (p part) has(x api.Item) bool {
	_, there := p.slots.Find(shelf.Of(x))
	return there && p.slots.Rank(shelf.Of(x)) >= p.from
}

// items are those of a part, in order.
func (p part) items() []api.Item {
	all := shelf.Items(p.slots)
	return all[len(all)-p.len():]
}

// cut parts the n least ones of all parts' items from the others: in each part the place behind those that it has of them. There are n at least.
func cut(parts []part, n int) []int {
	// In each part what is ahead of from is among them, and what is at to, or behind it, isn't; n are still looked for in between.
	from, to := make([]int, len(parts)), make([]int, len(parts))
	for i, p := range parts {
		from[i], to[i] = p.from, p.from+min(p.len(), n)
	}
	// It goes by from and to as they come closer.
	ahead := func(x api.Item) (places []int, sum int) {
		places = slices.Clone(from)
		for i, p := range parts {
			if from[i] < to[i] {
				places[i] = min(max(p.slots.Rank(shelf.Of(x)), from[i]), to[i])
				sum += places[i] - from[i]
			}
		}
		return places, sum
	}
	for n > 0 {
		m := middle(parts, from, to)
		places, sum := ahead(m.x)
		if sum >= n {
			to = places
			continue
		}
		// The item is one of them itself; so each turn comes closer, even if another part has one that is alike, which isn't ahead.
		places[m.of]++
		from, n = places, n-sum-1
	}
	return from
}

// mid is the item in the middle of what is left of a part to look in: which part's, and how many items that are.
type mid struct {
	x         api.Item
	of, count int
}

// middle is the mid at which half of all items have been passed, if the mids are gone through in order: a quarter of them at least isn't behind it, and a quarter isn't ahead, however they lie. So each turn of the search leaves three quarters at most.
func middle(parts []part, from, to []int) mid {
	var mids []mid
	all := 0
	for i, p := range parts {
		count := to[i] - from[i]
		if count == 0 {
			continue
		}
		slot, _ := p.slots.At(from[i] + count/2)
		mids = append(mids, mid{slot.Item, i, count})
		all += count
	}
	slices.SortFunc(mids, func(a, b mid) int { return item.Compare(a.x, b.x) })
	passed := 0
	return mids[slices.IndexFunc(mids, func(m mid) bool {
		passed += m.count
		return 2*passed >= all
	})]
}
