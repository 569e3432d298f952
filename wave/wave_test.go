package wave

import (
	"math"
	"slices"
	"testing"

	"whilom/api"
	"whilom/grove"
	"whilom/tide"
)

// edges are the numbers near 0 and those at which a difference ceases to fit.
func edges() []int {
	return []int{-2, -1, 0, 1, 2, -1 << 62, 1 << 62, math.MinInt, math.MinInt + 1, math.MaxInt - 1, math.MaxInt}
}

// few are items ahead of and behind the zero one, which is among them; in order.
func few() []api.Item {
	return []api.Item{{Key: -1, ID: 5}, {}, {ID: 1}, {Key: 2, ID: -3}}
}

// items are those of all pairs of edges.
func items() []api.Item {
	var list []api.Item
	for _, key := range edges() {
		for _, id := range edges() {
			list = append(list, api.Item{Key: key, ID: id})
		}
	}
	return list
}

func found(x api.Item) api.Took { return api.Took{Found: true, Item: x} }

// left is an insertion's mark whose item is there, lost one's whose item isn't.
func left(x api.Item) Mark { return Mark{Op: api.Op{Insert: true, Item: x}, Here: true} }
func lost(x api.Item) Mark { return Mark{Op: api.Op{Insert: true, Item: x}} }

// ate is a deletion's mark that took an item, free one's that took nothing.
func ate(x api.Item) Mark { return Mark{Took: found(x)} }
func free() Mark          { return Mark{} }

// at is a mark at a time.
func at(time int, m Mark) Mark {
	m.Op.Time = time
	return m
}

// kinds are marks of all kinds, of a few items each, at the time 0.
func kinds() []Mark {
	list := []Mark{free()}
	for _, x := range few() {
		list = append(list, left(x), lost(x), ate(x))
	}
	return list
}

// odd are marks with fields that say nothing of their kind.
func odd() []Mark {
	var list []Mark
	for _, m := range kinds() {
		for _, x := range few() {
			if m.Op.Insert {
				m.Took = found(x)
				list = append(list, m)
				m.Took = api.Took{Item: x}
				list = append(list, m)
				continue
			}
			m.Op.Item = x
			list = append(list, m)
			m.Here = true
			list = append(list, m)
			if !m.Took.Found {
				m.Took.Item = x
				list = append(list, m)
			}
		}
	}
	return list
}

// dice is a row of numbers that looks random and is the same each time.
type dice uint64

func (d *dice) roll(n int) int {
	*d ^= *d << 13
	*d ^= *d >> 7
	*d ^= *d << 17
	return int(uint64(*d) % uint64(n))
}

// thrown are marks of any kinds at the times 0, 1 ..
func thrown(d *dice, n int) []Mark {
	from := append(kinds(), odd()...)
	list := make([]Mark, n)
	for i := range list {
		list[i] = at(i, from[d.roll(len(from))])
		if d.roll(2) == 0 {
			x := api.Item{Key: d.roll(50) - 25, ID: d.roll(9)}
			list[i] = at(i, []Mark{left(x), lost(x), ate(x)}[d.roll(3)])
		}
	}
	return list
}

// shortLists are all lists of at most so many of the marks.
func shortLists(length int, of []Mark) [][]Mark {
	lists := [][]Mark{nil}
	for from := 0; length > 0; length-- {
		to := len(lists)
		for ; from < to; from++ {
			for _, m := range of {
				lists = append(lists, append(slices.Clone(lists[from]), m))
			}
		}
	}
	return lists
}

// behind tells whether an item is behind another one.
func behind(x, y api.Item) bool {
	if x.Key != y.Key {
		return x.Key > y.Key
	}
	return x.ID > y.ID
}

// ebb is the tide of numbers, each sum of the first ones made from nothing.
func ebb(ns []int) tide.Tide {
	t := tide.Tide{N: len(ns)}
	for k := range ns {
		t.Sum = 0
		for _, n := range ns[:k+1] {
			t.Sum += n
		}
		if k == 0 || t.Sum < t.Low {
			t.Low = t.Sum
		}
	}
	return t
}

// extreme is the item that no other of a list is beyond, as a Took.
func extreme(l []api.Item, beyond func(x, y api.Item) bool) api.Took {
	for _, x := range l {
		if !slices.ContainsFunc(l, func(y api.Item) bool { return beyond(y, x) }) {
			return found(x)
		}
	}
	return api.Took{}
}

// plain is what marks come to as the chapter's words tell it: a list of each thing, gone through from nothing.
func plain(ms []Mark) Swell {
	var s Swell
	var counts, weights []int
	var taken, gone, here []api.Item
	for _, m := range ms {
		switch {
		case m.Op.Insert && m.Here:
			counts, weights = append(counts, 1), append(weights, 0)
			here = append(here, m.Op.Item)
		case m.Op.Insert:
			counts, weights = append(counts, 1), append(weights, 1)
			gone = append(gone, m.Op.Item)
		default:
			counts, weights = append(counts, -1), append(weights, -1)
			s.Deletes++
			if m.Took.Found {
				taken = append(taken, m.Took.Item)
			} else {
				s.Free++
			}
		}
	}
	ahead := func(x, y api.Item) bool { return behind(y, x) }
	s.Count, s.Weight = ebb(counts), ebb(weights)
	s.Most = extreme(taken, behind).Item
	s.Gone, s.Least = extreme(gone, behind), extreme(here, ahead)
	return s
}

// together puts what each mark alone comes to to what those ahead of it do.
func together(ms []Mark) Swell {
	var s Swell
	for _, m := range ms {
		s = s.Plus(m.Sum())
	}
	return s
}

// swells are such as marks come to, and such as no marks do.
func swells() []Swell {
	var list []Swell
	for _, m := range kinds() {
		list = append(list, m.Sum())
	}
	d := dice(20261119)
	for n := range 12 {
		list = append(list, plain(thrown(&d, n)))
	}
	tooks := []api.Took{{}, {Item: api.Item{Key: 9, ID: 9}}, {Item: api.Item{Key: -9}}, found(api.Item{}), found(api.Item{Key: -9}), found(api.Item{Key: 3, ID: 3})}
	for _, deletes := range []int{-1, 0, 1, 2} {
		for _, free := range []int{-1, 0, 1, 2} {
			for i, took := range tooks {
				other := tooks[(i+deletes+free+4)%len(tooks)]
				list = append(list, Swell{
					Count:   tide.Tide{N: deletes, Sum: free, Low: i},
					Weight:  tide.Tide{N: free, Sum: i, Low: deletes},
					Deletes: deletes, Free: free, Most: took.Item, Gone: took, Least: other,
				})
			}
		}
	}
	return list
}

func TestKey(t *testing.T) {
	for _, time := range edges() {
		k := Key(time)
		if want := (Mark{Op: api.Op{Time: time}}); k != want {
			t.Errorf("P8.1: Key(%d): %v; want %v", time, k, want)
		}
		if s, want := k.Sum(), (Swell{Count: tide.Tide{N: 1, Sum: -1, Low: -1}, Weight: tide.Tide{N: 1, Sum: -1, Low: -1}, Deletes: 1, Free: 1}); s != want {
			t.Errorf("P8.1: Key(%d) comes to %v; want %v: a deletion's that took nothing", time, s, want)
		}
	}
}

func TestCompareByHand(t *testing.T) {
	x := api.Item{Key: 7, ID: 7}
	for _, r := range []struct {
		a, b Mark
		want int
	}{
		{Mark{}, Mark{}, 0}, {Key(3), Key(3), 0}, {Key(1), Key(2), -1}, {Key(-2), Key(-1), -1}, {Key(-1), Key(0), -1}, {Key(9), Key(10), -1},
		{at(3, left(x)), Key(3), 0}, {at(3, left(x)), at(3, ate(api.Item{})), 0}, {at(3, lost(x)), at(3, left(api.Item{Key: 8})), 0}, // of one Time, whatever they are
		{at(3, left(x)), at(4, lost(api.Item{})), -1}, {at(3, ate(x)), Key(5), -1},
		{Key(math.MinInt), Key(math.MaxInt), -1}, {Key(math.MinInt), Key(1), -1}, {Key(-2), Key(math.MaxInt), -1}, {Key(math.MaxInt - 1), Key(math.MaxInt), -1},
	} {
		if got := r.a.Compare(r.b); got != r.want {
			t.Errorf("P8.1: %v.Compare(%v): %d; want %d", r.a, r.b, got, r.want)
		}
		if got := r.b.Compare(r.a); got != -r.want {
			t.Errorf("P8.1: %v.Compare(%v): %d; want %d", r.b, r.a, got, -r.want)
		}
	}
}

func TestCompareOfAllEdges(t *testing.T) {
	all := append(kinds(), odd()...)
	for _, a := range edges() {
		for _, b := range edges() {
			want := 0
			if a < b {
				want = -1
			}
			if a > b {
				want = 1
			}
			for i, m := range all {
				o := all[(i*7+3)%len(all)]
				if got := at(a, m).Compare(at(b, o)); got != want {
					t.Fatalf("P8.1: %v.Compare(%v): %d; want %d", at(a, m), at(b, o), got, want)
				}
			}
		}
	}
}

func TestSumByHand(t *testing.T) {
	x, y := api.Item{Key: -4, ID: 9}, api.Item{Key: 6, ID: 1}
	up, flat, down := tide.Tide{N: 1, Sum: 1, Low: 1}, tide.Tide{N: 1, Sum: 0, Low: 0}, tide.Tide{N: 1, Sum: -1, Low: -1}
	for _, r := range []struct {
		m    Mark
		want Swell
	}{
		{left(x), Swell{Count: up, Weight: flat, Least: found(x)}},
		{lost(x), Swell{Count: up, Weight: up, Gone: found(x)}},
		{left(api.Item{}), Swell{Count: up, Weight: flat, Least: found(api.Item{})}},
		{lost(api.Item{}), Swell{Count: up, Weight: up, Gone: found(api.Item{})}},
		{free(), Swell{Count: down, Weight: down, Deletes: 1, Free: 1}},
		{ate(x), Swell{Count: down, Weight: down, Deletes: 1, Most: x}},
		{ate(api.Item{}), Swell{Count: down, Weight: down, Deletes: 1}},
		{at(-8, left(x)), Swell{Count: up, Weight: flat, Least: found(x)}}, // the time counts for the order alone
		// Fields that say nothing of their kind.
		{Mark{Op: api.Op{Insert: true, Item: x}, Here: true, Took: found(y)}, Swell{Count: up, Weight: flat, Least: found(x)}},
		{Mark{Op: api.Op{Insert: true, Item: x}, Took: found(y)}, Swell{Count: up, Weight: up, Gone: found(x)}},
		{Mark{Op: api.Op{Item: x}, Here: true}, Swell{Count: down, Weight: down, Deletes: 1, Free: 1}},
		{Mark{Op: api.Op{Item: x}, Here: true, Took: found(y)}, Swell{Count: down, Weight: down, Deletes: 1, Most: y}},
		{Mark{Took: api.Took{Item: y}}, Swell{Count: down, Weight: down, Deletes: 1, Free: 1}},
	} {
		if got := r.m.Sum(); got != r.want {
			t.Errorf("P8.1: %v comes to %v; want %v", r.m, got, r.want)
		}
	}
}

func TestSumOfAllKinds(t *testing.T) {
	list := append(kinds(), odd()...)
	for _, x := range items() {
		list = append(list, at(x.ID, left(x)), at(x.Key, lost(x)), at(1, ate(x)))
	}
	for _, m := range list {
		if got, want := m.Sum(), plain([]Mark{m}); got != want {
			t.Errorf("P8.1: %v comes to %v; want %v", m, got, want)
		}
	}
}

func TestPlusByHand(t *testing.T) {
	a, b := api.Item{Key: -3, ID: 1}, api.Item{Key: 5, ID: 0}
	three := Swell{ // an insertion that isn't Here, a deletion that took its item, one that took nothing
		Count: tide.Tide{N: 3, Sum: -1, Low: -1}, Weight: tide.Tide{N: 3, Sum: -1, Low: -1},
		Deletes: 2, Free: 1, Most: a, Gone: found(a),
	}
	two := Swell{ // an insertion that is Here, one that isn't
		Count: tide.Tide{N: 2, Sum: 2, Low: 1}, Weight: tide.Tide{N: 2, Sum: 1, Low: 0},
		Gone: found(b), Least: found(a),
	}
	for _, r := range []struct{ s, o, want Swell }{
		{Swell{}, Swell{}, Swell{}}, {Swell{}, three, three}, {three, Swell{}, three}, {Swell{}, two, two}, {two, Swell{}, two},
		{three, two, Swell{
			Count: tide.Tide{N: 5, Sum: 1, Low: -1}, Weight: tide.Tide{N: 5, Sum: 0, Low: -1},
			Deletes: 2, Free: 1, Most: a, Gone: found(b), Least: found(a),
		}},
		{two, three, Swell{
			Count: tide.Tide{N: 5, Sum: 1, Low: 1}, Weight: tide.Tide{N: 5, Sum: 0, Low: 0},
			Deletes: 2, Free: 1, Most: a, Gone: found(b), Least: found(a),
		}},
		// A Most below the zero item: that of deletions that took nothing is none.
		{Swell{Deletes: 1, Free: 1}, Swell{Deletes: 1, Most: a}, Swell{Deletes: 2, Free: 1, Most: a}},
		{Swell{Deletes: 1, Most: a}, Swell{Deletes: 1, Free: 1}, Swell{Deletes: 2, Free: 1, Most: a}},
		{Swell{Deletes: 1, Most: a}, Swell{Deletes: 1, Most: b}, Swell{Deletes: 2, Most: b}},
		{Swell{Deletes: 1, Most: b}, Swell{Deletes: 1, Most: a}, Swell{Deletes: 2, Most: b}},
		{Swell{Deletes: 1, Most: a}, Swell{Deletes: 1}, Swell{Deletes: 2}}, // the zero item was taken, and is the greater one
		// Swells that no marks come to: Deletes and Free alone tell whether an item was taken, and o is asked first.
		{Swell{Most: a}, Swell{Most: b}, Swell{Most: a}}, {Swell{Most: b}, Swell{Most: a}, Swell{Most: b}}, {Swell{}, Swell{Most: b}, Swell{}},
		{Swell{Most: b}, Swell{Deletes: 1, Most: a}, Swell{Deletes: 1, Most: a}}, {Swell{Deletes: 1, Most: a}, Swell{Most: b}, Swell{Deletes: 1, Most: a}},
		{Swell{Free: 1, Most: b}, Swell{Deletes: 3, Free: 3, Most: a}, Swell{Deletes: 3, Free: 4, Most: b}},
		// What isn't Found has no item.
		{Swell{Gone: api.Took{Item: b}, Least: api.Took{Item: a}}, Swell{}, Swell{}}, {Swell{}, Swell{Gone: api.Took{Item: b}, Least: api.Took{Item: a}}, Swell{}},
		{Swell{Gone: api.Took{Item: b}, Least: api.Took{Item: a}}, Swell{Gone: found(a), Least: found(b)}, Swell{Gone: found(a), Least: found(b)}},
		{Swell{Gone: found(a), Least: found(b)}, Swell{Gone: api.Took{Item: b}, Least: api.Took{Item: a}}, Swell{Gone: found(a), Least: found(b)}},
		{Swell{Gone: found(a), Least: found(b)}, Swell{Gone: found(b), Least: found(a)}, Swell{Gone: found(b), Least: found(a)}},
		{Swell{Gone: found(b), Least: found(a)}, Swell{Gone: found(a), Least: found(b)}, Swell{Gone: found(b), Least: found(a)}},
	} {
		if got := r.s.Plus(r.o); got != r.want {
			t.Errorf("P8.2: %v.Plus(%v): %v; want %v", r.s, r.o, got, r.want)
		}
	}
}

// plainPlus is Plus as P8.2 tells it.
func plainPlus(s, o Swell) Swell {
	both := Swell{Count: s.Count.Plus(o.Count), Weight: s.Weight.Plus(o.Weight), Deletes: s.Deletes + o.Deletes, Free: s.Free + o.Free}
	switch {
	case o.Deletes == o.Free:
		both.Most = s.Most
	case s.Deletes == s.Free:
		both.Most = o.Most
	default:
		both.Most = extreme([]api.Item{s.Most, o.Most}, behind).Item
	}
	items := func(l ...api.Took) []api.Item {
		var list []api.Item
		for _, x := range l {
			if x.Found {
				list = append(list, x.Item)
			}
		}
		return list
	}
	both.Gone = extreme(items(s.Gone, o.Gone), behind)
	both.Least = extreme(items(s.Least, o.Least), func(x, y api.Item) bool { return behind(y, x) })
	return both
}

func TestPlusOfAllSwells(t *testing.T) {
	for _, s := range swells() {
		for _, o := range swells() {
			if got, want := s.Plus(o), plainPlus(s, o); got != want {
				t.Fatalf("P8.2: %v.Plus(%v): %v; want %v", s, o, got, want)
			}
		}
	}
}

func TestPlusOfAllItems(t *testing.T) {
	for _, x := range items() {
		for _, y := range items() {
			s := Swell{Deletes: 2, Free: 1, Most: x, Gone: found(x), Least: found(x)}
			o := Swell{Deletes: 3, Free: 1, Most: y, Gone: found(y), Least: found(y)}
			if got, want := s.Plus(o), plainPlus(s, o); got != want {
				t.Fatalf("P8.2: %v.Plus(%v): %v; want %v", s, o, got, want)
			}
		}
	}
}

func TestAboveByHand(t *testing.T) {
	low := api.Item{Key: -9, ID: 2}
	for _, r := range []struct {
		ms   []Mark
		x    api.Item
		want bool
	}{
		{nil, api.Item{Key: math.MinInt, ID: math.MinInt}, false},
		{[]Mark{left(api.Item{Key: 5}), lost(api.Item{Key: 5})}, low, false}, // insertions take nothing, but aren't deletions
		{[]Mark{free()}, api.Item{Key: math.MaxInt, ID: math.MaxInt}, true},
		{[]Mark{ate(low)}, low, false},
		{[]Mark{ate(low)}, api.Item{Key: -9, ID: 1}, true}, {[]Mark{ate(low)}, api.Item{Key: -9, ID: 3}, false},
		{[]Mark{ate(low)}, api.Item{Key: -10, ID: 99}, true}, {[]Mark{ate(low)}, api.Item{Key: -8, ID: -99}, false},
		{[]Mark{ate(low)}, api.Item{Key: -1}, false}, // not held against the zero item
		{[]Mark{ate(api.Item{})}, api.Item{Key: -1}, true}, {[]Mark{ate(api.Item{})}, api.Item{}, false},
		{[]Mark{ate(low), ate(api.Item{Key: 4})}, api.Item{Key: 3}, true}, {[]Mark{ate(api.Item{Key: 4}), ate(low)}, api.Item{Key: 3}, true},
		{[]Mark{ate(low), ate(api.Item{Key: 4})}, api.Item{Key: 4}, false},
		{[]Mark{ate(low), free()}, api.Item{Key: 4}, true}, {[]Mark{free(), ate(low)}, api.Item{Key: 4}, true}, {[]Mark{free(), left(low)}, api.Item{Key: 4}, true},
	} {
		if got := together(r.ms).Above(r.x); got != r.want {
			t.Errorf("P8.3: %v above %v: %v; want %v", r.ms, r.x, got, r.want)
		}
	}
	for _, r := range []struct {
		s    Swell
		x    api.Item
		want bool
	}{
		// Swells that no marks come to: Deletes and Free alone tell whether Most was taken.
		{Swell{Most: api.Item{Key: 5}}, low, false},
		{Swell{Gone: found(api.Item{Key: 5}), Least: found(api.Item{Key: 5})}, low, false},
		{Swell{Deletes: 1, Most: api.Item{Key: 5}, Gone: found(api.Item{Key: 9})}, api.Item{Key: 6}, false},
		{Swell{Deletes: 1, Most: api.Item{Key: 5}}, api.Item{Key: 4}, true},
	} {
		if got := r.s.Above(r.x); got != r.want {
			t.Errorf("P8.3: %v above %v: %v; want %v", r.s, r.x, got, r.want)
		}
	}
}

// anyAbove asks each deletion by itself.
func anyAbove(ms []Mark, x api.Item) bool {
	return slices.ContainsFunc(ms, func(m Mark) bool {
		return !m.Op.Insert && (!m.Took.Found || behind(m.Took.Item, x))
	})
}

func TestAboveOfAllShortLists(t *testing.T) {
	asked := append(few(), api.Item{Key: -1, ID: 4}, api.Item{Key: -1, ID: 6}, api.Item{ID: -1}, api.Item{Key: 1}, api.Item{Key: 2, ID: -4}, api.Item{Key: 3}, api.Item{Key: -2})
	for _, ms := range shortLists(3, kinds()) {
		s := together(ms)
		for _, x := range asked {
			if got, want := s.Above(x), anyAbove(ms, x); got != want {
				t.Fatalf("P8.3: %v above %v: %v; want %v", ms, x, got, want)
			}
		}
	}
}

func TestAboveOfAllItems(t *testing.T) {
	for _, x := range items() {
		for _, y := range items() {
			if got, want := ate(x).Sum().Above(y), behind(x, y); got != want {
				t.Fatalf("P8.3: %v taken, above %v: %v; want %v", x, y, got, want)
			}
		}
	}
}

func TestParted(t *testing.T) {
	d := dice(8)
	lists := append(shortLists(3, kinds()), shortLists(2, odd())...)
	for n := range 60 {
		lists = append(lists, thrown(&d, n))
	}
	for _, ms := range lists {
		want := plain(ms)
		if got := together(ms); got != want {
			t.Fatalf("P8.4: %v come to %v; want %v", ms, got, want)
		}
		for k := range len(ms) + 1 {
			if got := plain(ms[:k]).Plus(plain(ms[k:])); got != want {
				t.Fatalf("P8.4: %v parted at %d: %v; want %v", ms, k, got, want)
			}
		}
	}
}

func TestThreeInWhicheverOrder(t *testing.T) {
	d := dice(84)
	var lists [][]Mark
	for n := range 10 {
		lists = append(lists, thrown(&d, n), thrown(&d, 2*n))
	}
	for _, m := range kinds() {
		lists = append(lists, []Mark{m})
	}
	for _, a := range lists {
		for _, b := range lists {
			for _, c := range lists {
				x, y, z := together(a), together(b), together(c)
				one, other := x.Plus(y).Plus(z), x.Plus(y.Plus(z))
				if one != other {
					t.Fatalf("P8.4: %v, %v, %v: %v or %v", a, b, c, one, other)
				}
			}
		}
	}
}

func TestNewHasRoomForCapacityMarks(t *testing.T) {
	for _, row := range []struct{ capacity, room int }{{math.MinInt, 0}, {-1, 0}, {0, 0}, {1, 1}, {5, 5}} {
		w := New(row.capacity)
		if w == nil || w.Len() != 0 || len(w.All()) != 0 || w.Between(0, 9) != (Swell{}) {
			t.Fatalf("P8.1: New(%d) isn't a tree without marks", row.capacity)
		}
		for i := range row.room {
			if !w.Put(Key(i)) {
				t.Errorf("P8.1: New(%d) has no room for %d", row.capacity, i+1)
			}
		}
		if w.Put(Key(99)) || w.Len() != row.room {
			t.Errorf("P8.1: New(%d) has room for more: %d", row.capacity, w.Len())
		}
		if row.room > 0 && !w.Put(at(0, left(api.Item{}))) {
			t.Errorf("P8.1: New(%d), full, refuses a mark in the place of one of its Time", row.capacity)
		}
	}
	for _, capacity := range []int{api.MaxOps, api.MaxCells, math.MaxInt} {
		if w := New(capacity); !w.Put(Key(1)) || w.Len() != 1 {
			t.Errorf("P8.1: New(%d) has no room", capacity)
		}
	}
}

// TestTheTreeByHand is the chapter's kind of queue: two that come, one that is taken, one deletion that finds nothing.
func TestTheTreeByHand(t *testing.T) {
	three, seven := api.Item{Key: 3, ID: 1}, api.Item{Key: 7, ID: 5}
	w := New(4)
	for _, m := range []Mark{at(5, left(seven)), at(-3, free()), at(2, ate(three)), at(1, lost(three))} {
		if !w.Put(m) {
			t.Fatalf("P8.1: %v isn't put in", m)
		}
	}
	if got, want := w.All(), []Mark{at(-3, free()), at(1, lost(three)), at(2, ate(three)), at(5, left(seven))}; !slices.Equal(got, want) {
		t.Errorf("P8.1: in order: %v; want %v", got, want)
	}
	if m, ok := w.Find(Key(2)); !ok || m != at(2, ate(three)) {
		t.Errorf("P8.1: by the key of 2: %v, %v", m, ok)
	}
	if m, ok := w.Find(Key(3)); ok || m != (Mark{}) || w.Rank(Key(3)) != 3 {
		t.Errorf("P8.1: by the key of 3: %v, %v, %d ahead", m, ok, w.Rank(Key(3)))
	}
	want := Swell{
		Count: tide.Tide{N: 4, Sum: 0, Low: -1}, Weight: tide.Tide{N: 4, Sum: -1, Low: -1},
		Deletes: 2, Free: 1, Most: three, Gone: found(three), Least: found(seven),
	}
	if got := w.Between(0, 4); got != want {
		t.Errorf("P8.4: all of it comes to %v; want %v", got, want)
	}
	if m, ok := w.Drop(Key(-3)); !ok || m != at(-3, free()) {
		t.Errorf("P8.1: dropped by its key: %v, %v", m, ok)
	}
	want = Swell{
		Count: tide.Tide{N: 3, Sum: 1, Low: 0}, Weight: tide.Tide{N: 3, Sum: 0, Low: 0},
		Deletes: 1, Most: three, Gone: found(three), Least: found(seven),
	}
	if got := w.Between(0, 3); got != want {
		t.Errorf("P8.4: the rest comes to %v; want %v", got, want)
	}
}

// alike holds a tree against a plain list of marks, over all places.
func alike(t *testing.T, w *grove.Tree[Mark, Swell], ms []Mark) {
	t.Helper()
	if w.Len() != len(ms) || !slices.Equal(w.All(), ms) {
		t.Fatalf("P8.1: %d marks, %v; want %v", w.Len(), w.All(), ms)
	}
	for from := range len(ms) + 1 {
		for to := from; to <= len(ms); to++ {
			if got, want := w.Between(from, to), plain(ms[from:to]); got != want {
				t.Fatalf("P8.4: %v come to %v; want %v", ms[from:to], got, want)
			}
		}
	}
}

func TestTheTreeAgainstPlainLists(t *testing.T) {
	d := dice(20261118)
	from := append(kinds(), odd()...)
	const capacity = 25
	for range 20 {
		w := New(capacity)
		var ms []Mark
		for range 60 {
			m := at(d.roll(40)-20, from[d.roll(len(from))])
			i, there := slices.BinarySearchFunc(ms, m, func(a, b Mark) int { return a.Op.Time - b.Op.Time })
			if d.roll(3) == 0 {
				want := Mark{}
				if there {
					want = ms[i]
					ms = slices.Delete(ms, i, i+1)
				}
				if got, ok := w.Drop(Key(m.Op.Time)); got != want || ok != there {
					t.Fatalf("P8.1: dropped at %d: %v, %v; want %v, %v", m.Op.Time, got, ok, want, there)
				}
			} else {
				room := there || len(ms) < capacity
				if w.Put(m) != room {
					t.Fatalf("P8.1: put at %d into %d of %d: %v", m.Op.Time, len(ms), capacity, !room)
				}
				if there {
					ms[i] = m
				} else if room {
					ms = slices.Insert(ms, i, m)
				}
			}
			alike(t, w, ms)
		}
	}
}

// TestTheTreeIsAskedByAbove looks for deletions from all places on: Above of more marks holds whenever it holds at one of them.
func TestTheTreeIsAskedByAbove(t *testing.T) {
	d := dice(83)
	for n := range 30 {
		ms := thrown(&d, n)
		w := New(n)
		for _, m := range ms {
			w.Put(m)
		}
		for _, x := range few() {
			may := func(_, of Swell) bool { return of.Above(x) }
			for p := range n + 1 {
				first := slices.IndexFunc(ms[p:], func(m Mark) bool { return anyAbove([]Mark{m}, x) })
				if first >= 0 {
					first += p
				}
				last := p - 1
				for last >= 0 && !anyAbove(ms[last:last+1], x) {
					last--
				}
				if i := w.First(p, may); i != first {
					t.Fatalf("P8.3: the first above %v from %d on: %d; want %d", x, p, i, first)
				}
				if i := w.Last(p, may); i != last {
					t.Fatalf("P8.3: the last above %v below %d: %d; want %d", x, p, i, last)
				}
			}
		}
	}
}

// TestAFullTimeline has as many marks as there may be operations; each deletion takes the item just ahead of it.
func TestAFullTimeline(t *testing.T) {
	w := New(api.MaxOps)
	for i := range api.MaxOps {
		time := i * 40503 % api.MaxOps // each time once, in an order that isn't theirs
		m := lost(api.Item{Key: -1 - time/2, ID: time / 2})
		if time%2 == 1 {
			m = ate(m.Op.Item)
		}
		if !w.Put(at(time, m)) {
			t.Fatalf("P8.1: no room for %d", i+1)
		}
	}
	const half = api.MaxOps / 2
	greatest := api.Item{Key: -1, ID: 0}
	even := tide.Tide{N: api.MaxOps, Sum: 0, Low: 0}
	want := Swell{Count: even, Weight: even, Deletes: half, Most: greatest, Gone: found(greatest)}
	if got := w.Between(0, api.MaxOps); got != want {
		t.Errorf("P8.4: all of it comes to %v; want %v", got, want)
	}
	down := tide.Tide{N: api.MaxOps - 1, Sum: -1, Low: -1}
	want = Swell{Count: down, Weight: down, Deletes: half, Most: greatest, Gone: found(api.Item{Key: -2, ID: 1})}
	if got := w.Between(1, api.MaxOps); got != want {
		t.Errorf("P8.4: all but the first one come to %v; want %v", got, want)
	}
}
