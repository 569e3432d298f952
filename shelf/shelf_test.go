package shelf

import (
	"math"
	"slices"
	"testing"

	"whilom/api"
	"whilom/grove"
)

type slots = grove.Tree[Slot, Size]

// edges are the numbers near 0 and those at which a difference ceases to fit.
func edges() []int {
	return []int{-2, -1, 0, 1, 2, -1 << 62, 1 << 62, math.MinInt, math.MinInt + 1, math.MaxInt - 1, math.MaxInt}
}

// items are those of all pairs of edges.
func items() []api.Item {
	var list []api.Item
	for _, key := range edges() {
		for _, id := range edges() {
			list = append(list, api.Item{Key: key, ID: id})
		}
	}
	return list
}

// kinds are an item's slots: without a time, with one, and with a Time that says nothing.
func kinds(x api.Item) []Slot {
	list := []Slot{{Item: x}}
	for _, time := range edges() {
		list = append(list, Slot{Item: x, Eaten: true, Time: time}, Slot{Item: x, Time: time})
	}
	return list
}

// order is how two items stand.
func order(x, y api.Item) int {
	switch {
	case x == y:
		return 0
	case x.Key < y.Key, x.Key == y.Key && x.ID < y.ID:
		return -1
	}
	return 1
}

// sorted are the same slots in order.
func sorted(l []Slot) []Slot {
	list := slices.Clone(l)
	slices.SortFunc(list, func(s, o Slot) int { return order(s.Item, o.Item) })
	return list
}

// itemsOf are the items of slots, one by one.
func itemsOf(l []Slot) []api.Item {
	var list []api.Item
	for _, s := range l {
		list = append(list, s.Item)
	}
	return list
}

// countAbove is how many slots' items are behind one, each asked alone.
func countAbove(l []Slot, x api.Item) int {
	n := 0
	for _, s := range l {
		if order(s.Item, x) > 0 {
			n++
		}
	}
	return n
}

// dice is a row of numbers that looks random and is the same each time.
type dice uint64

func (d *dice) roll(n int) int {
	*d ^= *d << 13
	*d ^= *d >> 7
	*d ^= *d << 17
	return int(uint64(*d) % uint64(n))
}

// filled is a tree of these slots, put in in an order that isn't theirs.
func filled(t *testing.T, l []Slot) *slots {
	t.Helper()
	g := New(len(l))
	shuffled := slices.Clone(l)
	d := dice(len(l) + 1)
	for i := range shuffled {
		j := d.roll(i + 1)
		shuffled[i], shuffled[j] = shuffled[j], shuffled[i]
	}
	for i, s := range shuffled {
		if !g.Put(s) {
			t.Fatalf("P9.1: no room for %d of %d", i+1, len(l))
		}
	}
	return g
}

// alike checks a tree against a plain list in order.
func alike(t *testing.T, g *slots, l []Slot) {
	t.Helper()
	if got := g.All(); !slices.Equal(got, l) {
		t.Fatalf("P9.1: the tree has %v; want %v", got, l)
	}
	if n := g.Between(0, len(l)); n != Size(len(l)) {
		t.Fatalf("P9.1: %d slots come to %d", len(l), n)
	}
	if got, want := Items(g), itemsOf(l); !slices.Equal(got, want) {
		t.Fatalf("P9.2: Items: %v; want %v", got, want)
	}
}

func TestOf(t *testing.T) {
	for _, x := range items() {
		if got, want := Of(x), (Slot{Item: x, Eaten: false, Time: 0}); got != want {
			t.Errorf("P9.1: Of(%v): %v; want %v", x, got, want)
		}
	}
}

func TestCompareByHand(t *testing.T) {
	slot := func(key, id int) Slot { return Of(api.Item{Key: key, ID: id}) }
	for _, r := range []struct {
		a, b Slot
		want int
	}{
		{Slot{}, Slot{}, 0}, {slot(3, 4), slot(3, 4), 0},
		{slot(1, 9), slot(2, 0), -1}, {slot(9, 0), slot(10, 0), -1}, {slot(-1, 5), slot(0, 0), -1}, {slot(-10, 0), slot(-9, 0), -1},
		{slot(3, 4), slot(3, 5), -1}, {slot(3, -1), slot(3, 0), -1}, {slot(3, 9), slot(3, 10), -1},
		{slot(math.MinInt, 0), slot(math.MaxInt, 0), -1}, {slot(math.MinInt, 0), slot(1, 0), -1}, {slot(-2, 0), slot(math.MaxInt, 0), -1},
		{slot(0, math.MinInt), slot(0, math.MaxInt), -1}, {slot(0, -2), slot(0, math.MaxInt), -1},
		// Neither time nor whether there is one counts.
		{slot(3, 4), Slot{Item: api.Item{Key: 3, ID: 4}, Eaten: true, Time: 9}, 0},
		{Slot{Item: api.Item{Key: 3, ID: 4}, Eaten: true, Time: 1}, Slot{Item: api.Item{Key: 3, ID: 4}, Eaten: true, Time: 9}, 0},
		{slot(3, 4), Slot{Item: api.Item{Key: 3, ID: 4}, Time: -9}, 0},
		{Slot{Item: api.Item{Key: 3, ID: 4}, Eaten: true, Time: 9}, slot(3, 5), -1}, {slot(3, 4), Slot{Item: api.Item{Key: 3, ID: 5}, Eaten: true, Time: -9}, -1},
	} {
		if got := r.a.Compare(r.b); got != r.want {
			t.Errorf("P9.1: %v.Compare(%v): %d; want %d", r.a, r.b, got, r.want)
		}
		if got := r.b.Compare(r.a); got != -r.want {
			t.Errorf("P9.1: %v.Compare(%v): %d; want %d", r.b, r.a, got, -r.want)
		}
	}
}

func TestCompareOfAllEdges(t *testing.T) {
	for i, x := range items() {
		for j, y := range items() {
			s := kinds(x)[i%len(kinds(x))]
			o := kinds(y)[(i+7*j)%len(kinds(y))]
			if got, want := s.Compare(o), order(x, y); got != want {
				t.Fatalf("P9.1: %v.Compare(%v): %d; want %d", s, o, got, want)
			}
		}
	}
}

func TestCompareOfOneItemsSlots(t *testing.T) {
	x := api.Item{Key: -7, ID: 7}
	for _, s := range kinds(x) {
		for _, o := range kinds(x) {
			if got := s.Compare(o); got != 0 {
				t.Errorf("P9.1: %v.Compare(%v): %d; want 0", s, o, got)
			}
		}
	}
}

func TestSumIsOne(t *testing.T) {
	for _, x := range items() {
		for _, s := range kinds(x) {
			if n := s.Sum(); n != 1 {
				t.Errorf("P9.1: Sum of %v: %d; want 1", s, n)
			}
		}
	}
}

func TestPlusByHand(t *testing.T) {
	for _, r := range []struct{ n, m, want Size }{
		{0, 0, 0}, {0, 1, 1}, {1, 0, 1}, {1, 1, 2}, {3, 4, 7}, {4, 3, 7}, {65535, 1, 65536}, {-1, 1, 0}, {-3, -4, -7}, {1 << 61, 1 << 61, 1 << 62},
		{math.MaxInt, 0, math.MaxInt}, {math.MaxInt - 1, 1, math.MaxInt}, {math.MinInt, math.MaxInt, -1},
		{math.MaxInt, 1, math.MinInt}, {math.MinInt, -1, math.MaxInt}, // as Go's ints are added
	} {
		if got := r.n.Plus(r.m); got != r.want {
			t.Errorf("P9.1: %d.Plus(%d): %d; want %d", r.n, r.m, got, r.want)
		}
	}
}

func TestANewTree(t *testing.T) {
	for _, capacity := range []int{math.MinInt, -1, 0, 1, 7, api.MaxOps, api.MaxCells, math.MaxInt} {
		g := New(capacity)
		if g == nil {
			t.Fatalf("P9.1: New(%d) is nil", capacity)
		}
		if g.Len() != 0 || g.Between(0, 9) != 0 || g.Height() != 0 || g.Visits() != 0 || g.Join(New(capacity)) {
			t.Errorf("P9.1: New(%d) has slots, visits, or another one's pool", capacity)
		}
		if len(Items(g)) != 0 || Above(g, api.Item{Key: math.MinInt, ID: math.MinInt}) != 0 {
			t.Errorf("P9.2: New(%d) has items", capacity)
		}
		room := min(max(capacity, 0), 9)
		for i := range room {
			if !g.Put(Of(api.Item{Key: i})) {
				t.Errorf("P9.1: New(%d) has no room for %d", capacity, i+1)
			}
		}
		if full := room < 9; g.Put(Of(api.Item{Key: -1})) == full {
			t.Errorf("P9.1: New(%d) with %d slots: full is not %v", capacity, room, full)
		}
	}
}

func TestASlotTakesThePlaceOfOneOfItsItem(t *testing.T) {
	x := api.Item{Key: 5, ID: 1}
	for _, s := range kinds(x) {
		for _, o := range kinds(x) {
			g := New(3)
			for _, put := range []Slot{Of(api.Item{Key: 5, ID: 2}), s, Of(api.Item{Key: 5}), o} {
				if !g.Put(put) {
					t.Fatalf("P9.1: no room for %v", put)
				}
			}
			if got, ok := g.Find(Of(x)); !ok || got != o {
				t.Errorf("P9.1: found %v, %v; want %v", got, ok, o)
			}
			alike(t, g, []Slot{Of(api.Item{Key: 5}), o, Of(api.Item{Key: 5, ID: 2})})
		}
	}
}

func TestItemsByHand(t *testing.T) {
	a, b, c := api.Item{Key: -1, ID: 9}, api.Item{Key: 5, ID: 1}, api.Item{Key: 5, ID: 2}
	for _, r := range []struct {
		put  []Slot
		want []api.Item
	}{
		{nil, nil},
		{[]Slot{{}}, []api.Item{{}}},
		{[]Slot{Of(b)}, []api.Item{b}},
		{[]Slot{Of(c), Of(b), Of(a)}, []api.Item{a, b, c}},
		{[]Slot{Of(b), Of(a), Of(c)}, []api.Item{a, b, c}},
		{[]Slot{Of(c), Of(b), Of(c), Of(b)}, []api.Item{b, c}},
		{[]Slot{Of(c), {Item: a, Eaten: true, Time: 7}, {Item: b, Eaten: true, Time: -7}}, []api.Item{a, b, c}}, // eaten ones too, and not by their times
		{[]Slot{Of(c), {Item: c, Eaten: true, Time: 1}}, []api.Item{c}},
	} {
		g := New(9)
		for _, s := range r.put {
			g.Put(s)
		}
		if got := Items(g); !slices.Equal(got, r.want) {
			t.Errorf("P9.2: Items of %v: %v; want %v", r.put, got, r.want)
		}
	}
}

func TestAboveByHand(t *testing.T) {
	item := func(key, id int) api.Item { return api.Item{Key: key, ID: id} }
	three := []Slot{Of(item(2, 0)), Of(item(5, 0)), Of(item(9, 0))}
	same := []Slot{Of(item(5, -3)), {Item: item(5, 0), Eaten: true, Time: 8}, Of(item(5, 1)), {Item: item(5, 4), Time: 3}}
	far := []Slot{Of(item(math.MinInt, math.MinInt)), Of(item(0, 0)), Of(item(math.MaxInt, math.MaxInt-1)), Of(item(math.MaxInt, math.MaxInt))}
	for _, r := range []struct {
		l    []Slot
		x    api.Item
		want int
	}{
		{nil, item(0, 0), 0}, {nil, item(math.MinInt, math.MinInt), 0},
		{three, item(4, 0), 2}, {three, item(5, 0), 1}, // as the chapter has it
		{three, item(1, 9), 3}, {three, item(2, -1), 3}, {three, item(2, 0), 2}, {three, item(2, 1), 2},
		{three, item(5, -1), 2}, {three, item(5, 1), 1}, {three, item(8, 0), 1}, {three, item(9, 0), 0}, {three, item(9, -1), 1}, {three, item(9, 1), 0}, {three, item(10, 0), 0},
		{same, item(5, -4), 4}, {same, item(5, -3), 3}, {same, item(5, 0), 2}, {same, item(5, 1), 1}, {same, item(5, 2), 1}, {same, item(5, 4), 0}, {same, item(4, 9), 4}, {same, item(6, -9), 0},
		{far, item(math.MinInt, math.MinInt), 3}, {far, item(math.MinInt, math.MinInt+1), 3}, {far, item(math.MaxInt, math.MinInt), 2},
		{far, item(math.MaxInt, math.MaxInt-1), 1}, {far, item(math.MaxInt, math.MaxInt), 0}, {far, item(0, math.MaxInt), 2},
	} {
		if got := Above(filled(t, r.l), r.x); got != r.want {
			t.Errorf("P9.2: Above(%v, %v): %d; want %d", r.l, r.x, got, r.want)
		}
	}
}

func TestNilHasNothing(t *testing.T) {
	if l := Items(nil); len(l) != 0 {
		t.Errorf("P9.2: Items of nil: %v", l)
	}
	for _, x := range items() {
		if n := Above(nil, x); n != 0 {
			t.Errorf("P9.2: Above(nil, %v): %d", x, n)
		}
	}
}

func TestItemsAndAboveOfAllEdges(t *testing.T) {
	var all []Slot
	for i, x := range items() {
		all = append(all, kinds(x)[i%len(kinds(x))])
	}
	for step := 1; step < 5; step++ {
		var some []Slot
		for i := 0; i < len(all); i += step {
			some = append(some, all[i])
		}
		some = sorted(some)
		g := filled(t, some)
		alike(t, g, some)
		for _, x := range items() {
			if got, want := Above(g, x), countAbove(some, x); got != want {
				t.Fatalf("P9.2: Above(%v) of %d slots: %d; want %d", x, len(some), got, want)
			}
		}
	}
}

func TestWhatWasPartedHasItsOwnAlone(t *testing.T) {
	var all []Slot
	for i := range 12 {
		all = append(all, Of(api.Item{Key: 10 * i}))
	}
	for i := range len(all) + 1 {
		g := filled(t, all)
		h := g.Split(Of(api.Item{Key: 10*i - 5}))
		alike(t, g, all[:i])
		alike(t, h, all[i:])
		for key := -5; key < 125; key += 5 {
			x := api.Item{Key: key}
			if n, m := Above(g, x), Above(h, x); n != countAbove(all[:i], x) || m != countAbove(all[i:], x) {
				t.Fatalf("P9.2: Above(%v), parted at %d: %d and %d", x, i, n, m)
			}
		}
		if !g.Join(h) || len(Items(h)) != 0 || Above(h, api.Item{Key: -1}) != 0 {
			t.Fatalf("P9.2: joined at %d, the other one still has items", i)
		}
		alike(t, g, all)
	}
}

func TestAgainstPlainLists(t *testing.T) {
	d := dice(20261119)
	const capacity = 30
	for range 20 {
		g := New(capacity)
		var l []Slot
		for range 80 {
			x := api.Item{Key: d.roll(9) - 4, ID: d.roll(9) - 4}
			s := kinds(x)[d.roll(len(kinds(x)))]
			i, there := slices.BinarySearchFunc(l, s, func(a, b Slot) int { return order(a.Item, b.Item) })
			if d.roll(3) == 0 {
				if got, ok := g.Drop(s); ok != there || there && got != l[i] {
					t.Fatalf("P9.1: dropped %v: %v, %v; there: %v", x, got, ok, there)
				}
				if there {
					l = slices.Delete(l, i, i+1)
				}
			} else {
				room := there || len(l) < capacity
				if g.Put(s) != room {
					t.Fatalf("P9.1: put %v into %d of %d: %v", s, len(l), capacity, !room)
				}
				if there {
					l[i] = s
				} else if room {
					l = slices.Insert(l, i, s)
				}
			}
			alike(t, g, l)
			y := api.Item{Key: d.roll(11) - 5, ID: d.roll(11) - 5}
			if got, want := Above(g, y), countAbove(l, y); got != want {
				t.Fatalf("P9.2: Above(%v) of %v: %d; want %d", y, l, got, want)
			}
		}
	}
}

func TestItemsAreNewMemory(t *testing.T) {
	for _, n := range []int{0, 1, 2, 3, 8, 9, 100} {
		var l []Slot
		for i := range n {
			l = append(l, Slot{Item: api.Item{Key: i, ID: -i}, Eaten: i%2 == 0, Time: i})
		}
		g := filled(t, l)
		one, two := Items(g), Items(g)
		one = one[:cap(one)]
		for i := range one {
			one[i] = api.Item{Key: 77, ID: 77}
		}
		if !slices.Equal(two, itemsOf(l)) {
			t.Errorf("P9.2: two answers of %d items share", n)
		}
		alike(t, g, l)
		g.Put(Slot{Item: api.Item{Key: 0, ID: 0}, Eaten: true, Time: 5})
		g.Drop(Of(api.Item{Key: n - 1, ID: 1 - n}))
		if !slices.Equal(two, itemsOf(l)) {
			t.Errorf("P9.2: an answer of %d items follows the tree", n)
		}
	}
}

// TestAFullShelf has as many slots as there may be operations.
func TestAFullShelf(t *testing.T) {
	g := New(api.MaxOps)
	var want []api.Item
	for i := range api.MaxOps {
		place := i * 40503 % api.MaxOps // each place once, in an order that isn't theirs
		if !g.Put(Of(api.Item{Key: place / 4, ID: place % 4})) {
			t.Fatalf("P9.1: no room for %d", i+1)
		}
		want = append(want, api.Item{Key: i / 4, ID: i % 4})
	}
	if g.Put(Of(api.Item{Key: -1})) {
		t.Error("P9.1: room for more than there may be")
	}
	if n := g.Between(0, api.MaxOps); n != api.MaxOps {
		t.Errorf("P9.1: all of them come to %d", n)
	}
	if !slices.Equal(Items(g), want) {
		t.Error("P9.2: Items of all aren't these in order")
	}
	for i, x := range want {
		if n := Above(g, x); n != api.MaxOps-1-i {
			t.Fatalf("P9.2: Above(%v): %d; want %d", x, n, api.MaxOps-1-i)
		}
	}
}
