package grove

import (
	"cmp"
	"math"
	"math/bits"
	"slices"
	"sort"
	"strings"
	"testing"

	"whilom/api"
)

// text is a sum for which order matters: texts one behind the other.
type text string

func (x text) Plus(y text) text { return x + y }

// entry is an element whose text doesn't matter for its place.
type entry struct {
	key  int
	text text
}

func (e entry) Compare(f entry) int { return cmp.Compare(e.key, f.key) * 7 }
func (e entry) Sum() text           { return e.text }

// number is an element whose sum is itself.
type number int

func (n number) Compare(m number) int { return cmp.Compare(n, m) }
func (n number) Sum() total           { return total(n) }

type total int

func (n total) Plus(m total) total { return n + m }

type texts = Tree[entry, text]

// dice is a row of numbers that looks random and is the same each time.
type dice uint64

func (d *dice) roll(n int) int {
	*d ^= *d << 13
	*d ^= *d >> 7
	*d ^= *d << 17
	return int(uint64(*d) % uint64(n))
}

// letters are entries with the keys 0, 10, 20 .. and texts that tell them apart.
func letters(n int) []entry {
	var l []entry
	for i := range n {
		l = append(l, entry{10 * i, text(rune('A' + i))})
	}
	return l
}

// planted is a tree of these entries, put in in an order that isn't theirs.
func planted(t *testing.T, capacity int, l []entry) *texts {
	t.Helper()
	g := New[entry, text](capacity)
	shuffled := slices.Clone(l)
	d := dice(len(l) + 1)
	for i := range shuffled {
		j := d.roll(i + 1)
		shuffled[i], shuffled[j] = shuffled[j], shuffled[i]
	}
	for _, e := range shuffled {
		if !g.Put(e) {
			t.Fatalf("P7.2: Put(%v) of %d into room for %d is false", e, len(l), capacity)
		}
	}
	return g
}

// glued is the plain sum of entries.
func glued(l []entry) text {
	var s strings.Builder
	for _, e := range l {
		s.WriteString(string(e.text))
	}
	return text(s.String())
}

// bound is the promised height's.
func bound(n int) int { return 2 + 3*(bits.Len(uint(n+1))-1) }

// holds checks a tree against a plain list, and its shape.
func holds(t *testing.T, g *texts, l []entry) {
	t.Helper()
	if g.Len() != len(l) || !slices.Equal(g.All(), l) {
		t.Fatalf("P7.1: Len %d, All %v; want %v", g.Len(), g.All(), l)
	}
	if s := g.Between(0, len(l)); s != glued(l) {
		t.Fatalf("P7.3: Between all is %q; want %q", s, glued(l))
	}
	if h := g.Height(); h > bound(len(l)) || h != tallness(g, g.root) {
		t.Fatalf("P7.6: Height of %d elements is %d, the longest way %d, the bound %d", len(l), h, tallness(g, g.root), bound(len(l)))
	}
}

// tallness counts the nodes of the longest way; -1000000 of a tree that leans more than it should.
func tallness[E Elem[E, A], A Sum[A]](g *Tree[E, A], r api.Ref) int {
	n, ok := g.pool.Get(r)
	if !ok {
		return 0
	}
	left, right := tallness(g, n.left), tallness(g, n.right)
	if left-right < -1 || left-right > 1 {
		return -1000000
	}
	return 1 + max(left, right)
}

func TestATreeWithoutElementsHasNothing(t *testing.T) {
	for _, capacity := range []int{math.MinInt, -1, 0, 1, 7, api.MaxCells, math.MaxInt} {
		g := New[entry, text](capacity)
		if g.Len() != 0 || len(g.All()) != 0 || g.Height() != 0 || g.Visits() != 0 {
			t.Errorf("P7.1: New(%d) has %d, %v, height %d, visits %d", capacity, g.Len(), g.All(), g.Height(), g.Visits())
		}
		for _, i := range []int{math.MinInt, -1, 0, 1, math.MaxInt} {
			if e, ok := g.At(i); ok || e != (entry{}) {
				t.Errorf("P7.2: At(%d) of none: %v, %v", i, e, ok)
			}
			always := func(_, _ text) bool { return true }
			if g.First(i, always) != -1 || g.Last(i, always) != -1 {
				t.Errorf("P7.4: a place of none from %d on, or below", i)
			}
			if g.Between(i, 9) != "" || g.Between(0, i) != "" {
				t.Errorf("P7.3: a sum of none from %d on, or below", i)
			}
		}
		e, found := g.Find(entry{1, "x"})
		f, dropped := g.Drop(entry{1, "x"})
		if found || dropped || e != (entry{}) || f != (entry{}) || g.Rank(entry{1, "x"}) != 0 {
			t.Errorf("P7.2: Find, Drop, Rank of none: %v %v %v %v", e, found, f, dropped)
		}
	}
}

func TestThePoolHasRoomForCapacityElements(t *testing.T) {
	for _, row := range []struct{ capacity, room int }{{math.MinInt, 0}, {-1, 0}, {0, 0}, {1, 1}, {5, 5}} {
		g := New[entry, text](row.capacity)
		for i := range row.room {
			if !g.Put(entry{i, "a"}) {
				t.Errorf("P7.1: New(%d) has no room for %d", row.capacity, i+1)
			}
		}
		if g.Put(entry{99, "b"}) || g.Len() != row.room {
			t.Errorf("P7.2: New(%d) has room for more: %d", row.capacity, g.Len())
		}
	}
	if c := New[entry, text](math.MaxInt).pool.Cap(); c != api.MaxCells {
		t.Errorf("P7.1: the most room is %d", c)
	}
}

func TestAFullPoolRefusesWhatIsNewAlone(t *testing.T) {
	l := letters(6)
	g := planted(t, 6, l)
	for key := -5; key <= 55; key += 10 {
		if g.Put(entry{key, "?"}) {
			t.Errorf("P7.2: Put of a new %d into a full pool", key)
		}
		holds(t, g, l)
	}
	for i := range l {
		l[i].text += "!"
		if !g.Put(l[i]) {
			t.Errorf("P7.2: Put of one alike to %d into a full pool is false", l[i].key)
		}
		holds(t, g, l)
	}
	if e, ok := g.Drop(entry{30, ""}); !ok || e != l[3] {
		t.Errorf("P7.2: Drop: %v, %v", e, ok)
	}
	l[3] = entry{33, "new"}
	if !g.Put(l[3]) || g.Put(entry{34, "newer"}) {
		t.Error("P7.2: what was dropped leaves room for one")
	}
	holds(t, g, l)
}

func TestAPoolIsSharedByWhatWasParted(t *testing.T) {
	l := letters(6)
	g := planted(t, 7, l)
	h := g.Split(entry{30, ""})
	if !h.Put(entry{99, "z"}) || g.Put(entry{-1, "a"}) || h.Put(entry{98, "y"}) {
		t.Error("P7.5: trees that were parted have room for 7 together")
	}
	if _, ok := g.Drop(entry{0, ""}); !ok || !h.Put(entry{98, "y"}) {
		t.Error("P7.5: what the one drops leaves room for the other")
	}
	holds(t, g, l[1:3])
	holds(t, h, append(slices.Clone(l[3:]), entry{98, "y"}, entry{99, "z"}))
	before := g.Visits()
	h.Find(entry{99, ""})
	if g.Visits() == before || g.Visits() != h.Visits() || g.Visits() != g.pool.Visits() {
		t.Errorf("P7.6: Visits are the pool's: %d, %d, %d, %d before", g.Visits(), h.Visits(), g.pool.Visits(), before)
	}
}

func TestPutTakesThePlaceOfTheOneThatIsAlike(t *testing.T) {
	for n := 1; n <= 20; n++ {
		l := letters(n)
		for i := range l {
			g := planted(t, n+1, letters(n))
			l[i].text = "neu"
			if !g.Put(l[i]) {
				t.Errorf("P7.2: Put of one that is alike is false")
			}
			holds(t, g, l)
			if e, ok := g.Find(entry{l[i].key, "?"}); !ok || e != l[i] {
				t.Errorf("P7.2: Find(%d): %v, %v", l[i].key, e, ok)
			}
			l[i] = letters(n)[i]
		}
	}
}

func TestFindRankAndAtAtAllPlaces(t *testing.T) {
	for n := range 40 {
		l := letters(n)
		g := planted(t, n, l)
		for i, e := range l {
			asked := entry{e.key, "?"}
			if f, ok := g.Find(asked); !ok || f != e {
				t.Errorf("P7.2: Find(%d) of %d: %v, %v", e.key, n, f, ok)
			}
			if f, ok := g.At(i); !ok || f != e {
				t.Errorf("P7.2: At(%d) of %d: %v, %v", i, n, f, ok)
			}
			if r := g.Rank(asked); r != i {
				t.Errorf("P7.2: Rank(%d) of %d: %d", e.key, n, r)
			}
		}
		for i := range n + 1 {
			between := entry{10*i - 5, "?"}
			if f, ok := g.Find(between); ok || f != (entry{}) {
				t.Errorf("P7.2: Find(%d) of %d: %v, %v", between.key, n, f, ok)
			}
			if r := g.Rank(between); r != i {
				t.Errorf("P7.2: Rank(%d) of %d: %d", between.key, n, r)
			}
		}
		for _, i := range []int{math.MinInt, -1, n, n + 1, math.MaxInt} {
			if e, ok := g.At(i); ok || e != (entry{}) {
				t.Errorf("P7.2: At(%d) of %d: %v, %v", i, n, e, ok)
			}
		}
		holds(t, g, l)
	}
}

func TestDropLetsEachOneGo(t *testing.T) {
	for n := 1; n <= 30; n++ {
		for i := range n {
			l := letters(n)
			g := planted(t, n, l)
			if e, ok := g.Drop(entry{10*i + 5, "?"}); ok || e != (entry{}) {
				t.Errorf("P7.2: Drop of none: %v, %v", e, ok)
			}
			holds(t, g, l)
			if e, ok := g.Drop(entry{10 * i, "?"}); !ok || e != l[i] {
				t.Errorf("P7.2: Drop(%d): %v, %v; want %v", 10*i, e, ok, l[i])
			}
			holds(t, g, slices.Delete(slices.Clone(l), i, i+1))
			if e, ok := g.Drop(entry{10 * i, "?"}); ok || e != (entry{}) {
				t.Errorf("P7.2: Drop a second time: %v, %v", e, ok)
			}
			if !g.Put(l[i]) {
				t.Errorf("P7.2: what was dropped leaves no room")
			}
			holds(t, g, l)
		}
	}
}

func TestBetweenAllPlaces(t *testing.T) {
	far := []int{math.MinInt, math.MinInt + 1, math.MaxInt - 1, math.MaxInt}
	for n := range 24 {
		l := letters(n)
		g := planted(t, n, l)
		places := slices.Clone(far)
		for i := -3; i <= n+3; i++ {
			places = append(places, i)
		}
		for _, from := range places {
			for _, to := range places {
				want := text("")
				if a, b := max(from, 0), min(to, n); a < b {
					want = glued(l[a:b])
				}
				if s := g.Between(from, to); s != want {
					t.Errorf("P7.3: Between(%d, %d) of %d: %q; want %q", from, to, n, s, want)
				}
			}
		}
		holds(t, g, l)
	}
}

// question is a may, and what it is called.
type question struct {
	name string
	may  func(ahead, of text) bool
}

// questions are such that hold of more elements whenever they hold at one of them; some hold of more when they hold at none.
func questions() []question {
	has := func(set string) func(_, of text) bool {
		return func(_, of text) bool { return strings.ContainsAny(string(of), set) }
	}
	return []question{
		{"always", func(_, _ text) bool { return true }},
		{"never", func(_, _ text) bool { return false }},
		{"vowels", has("AEIOU")},
		{"only H", has("H")},
		{"only A", has("A")},
		{"reaches 5", func(ahead, of text) bool { return len(ahead)+len(of) >= 5 }},
		{"begins below 5", func(ahead, _ text) bool { return len(ahead) < 5 }},
		{"behind C", func(ahead, of text) bool {
			return strings.Contains(string(ahead), "C") || strings.Contains(string(of[:len(of)-1]), "C")
		}},
		{"two or more", func(_, of text) bool { return len(of) >= 2 }},
		{"two or more, or vowels", func(_, of text) bool {
			return len(of) >= 2 || strings.ContainsAny(string(of), "AEIOU")
		}},
	}
}

func TestFirstAndLastOfAllPlaces(t *testing.T) {
	far := []int{math.MinInt, math.MinInt + 1, math.MaxInt - 1, math.MaxInt}
	for n := range 24 {
		l := letters(n)
		g := planted(t, n, l)
		whole := string(glued(l))
		for _, q := range questions() {
			asked := func(ahead, of text) bool {
				if of == "" || !strings.HasPrefix(whole, string(ahead+of)) {
					t.Errorf("P7.4: may was asked of %q ahead of %q: of %q these don't stand so", ahead, of, whole)
				}
				return q.may(ahead, of)
			}
			var at []int
			for i, e := range l {
				if q.may(glued(l[:i]), e.text) {
					at = append(at, i)
				}
			}
			places := slices.Clone(far)
			for i := -3; i <= n+3; i++ {
				places = append(places, i)
			}
			for _, p := range places {
				first, last := -1, -1
				for _, i := range at {
					if i >= p && first < 0 {
						first = i
					}
					if i < p {
						last = i
					}
				}
				if i := g.First(p, asked); i != first {
					t.Errorf("P7.4: First(%d, %s) of %d: %d; want %d", p, q.name, n, i, first)
				}
				if i := g.Last(p, asked); i != last {
					t.Errorf("P7.4: Last(%d, %s) of %d: %d; want %d", p, q.name, n, i, last)
				}
			}
		}
		holds(t, g, l)
	}
}

func TestFirstAndLastOfNoQuestion(t *testing.T) {
	g := planted(t, 9, letters(9))
	for _, p := range []int{math.MinInt, -1, 0, 4, 9, math.MaxInt} {
		if g.First(p, nil) != -1 || g.Last(p, nil) != -1 {
			t.Errorf("P7.4: a nil may holds from %d on, or below", p)
		}
	}
}

func TestSplitAtAllPlacesAndJoinAgain(t *testing.T) {
	for n := range 40 {
		l := letters(n)
		for key := -5; key <= 10*n; key += 5 {
			g := planted(t, n, l)
			i, _ := slices.BinarySearchFunc(l, entry{key: key}, entry.Compare)
			h := g.Split(entry{key, "?"})
			if h == nil || h == g {
				t.Fatal("P7.5: Split's is no new tree")
			}
			holds(t, g, l[:i])
			holds(t, h, l[i:])
			if !g.Join(h) {
				t.Fatalf("P7.5: Join of %d and %d is false", i, n-i)
			}
			holds(t, g, l)
			holds(t, h, nil)
		}
	}
}

func TestSplitOfANewTreesPool(t *testing.T) {
	g := New[entry, text](2)
	h := g.Split(entry{})
	holds(t, g, nil)
	holds(t, h, nil)
	if !g.Join(h) || !h.Join(g) || !h.Put(entry{1, "a"}) || !g.Join(h) || !h.Join(g) {
		t.Error("P7.5: Join of trees without elements is false")
	}
	holds(t, g, nil)
	holds(t, h, []entry{{1, "a"}})
}

func TestJoinRefuses(t *testing.T) {
	l := letters(9)
	g := planted(t, 20, l)
	h := g.Split(entry{50, ""})
	others := planted(t, 20, []entry{{1000, "z"}})
	if g.Join(nil) || g.Join(g) || g.Join(others) || g.Join(New[entry, text](20)) || h.Join(g) {
		t.Error("P7.5: Join of nil, itself, another pool's or what is ahead is true")
	}
	empty := h.Split(entry{1000, ""})
	if empty.Join(empty) || empty.Join(nil) || empty.Join(others) {
		t.Error("P7.5: Join to no elements of nil, itself or another pool's is true")
	}
	holds(t, g, l[:5])
	holds(t, h, l[5:])
	holds(t, empty, nil)
	holds(t, others, []entry{{1000, "z"}})
}

func TestJoinWantsTheOneAheadOfTheOther(t *testing.T) {
	for _, key := range []int{-5, 0, 35, 40, 45, 50, 55, 80, 85} {
		l := letters(9)
		g := planted(t, 10, l)
		h := g.Split(entry{50, ""})
		lone := h.Split(entry{1000, ""})
		e := entry{key, "e"}
		lone.Put(e)
		if ok := lone.Join(h); ok != (key < 50) {
			t.Errorf("P7.5: Join of %d and 50 to 80: %v", key, ok)
		}
		h = lone.Split(entry{key + 1, ""})
		if ok := g.Join(lone); ok != (key > 40) {
			t.Errorf("P7.5: Join of 0 to 40 and %d: %v", key, ok)
		}
		if key > 40 {
			holds(t, g, append(letters(5), e))
			holds(t, lone, nil)
		} else {
			holds(t, g, letters(5))
			holds(t, lone, []entry{e})
		}
		if key < 50 {
			holds(t, h, l[5:])
		}
	}
}

// band is a plain list of entries in order, and the tree that must be like it.
type band struct {
	tree *texts
	list []entry
}

func (b *band) place(e entry) (int, bool) {
	return slices.BinarySearchFunc(b.list, e, entry.Compare)
}

func (b *band) put(e entry, full bool) bool {
	i, there := b.place(e)
	if there {
		b.list[i] = e
		return true
	}
	if !full {
		b.list = slices.Insert(b.list, i, e)
	}
	return !full
}

func TestAnyCallsAgainstPlainLists(t *testing.T) {
	d := dice(20261119)
	for round := range 60 {
		capacity := 1 + d.roll(60)
		bands := []*band{{tree: New[entry, text](capacity)}}
		for range 400 {
			k := d.roll(len(bands))
			b := bands[k]
			e := entry{d.roll(80), text(rune('a' + d.roll(26)))}
			i, there := b.place(e)
			switch d.roll(8) {
			case 0, 1, 2:
				held := 0
				for _, o := range bands {
					held += len(o.list)
				}
				if ok := b.tree.Put(e); ok != b.put(e, held == capacity) {
					t.Fatalf("P7.2: Put(%v): %v, with %d of %d", e, ok, held, capacity)
				}
			case 3, 4:
				want := entry{}
				if there {
					want = b.list[i]
					b.list = slices.Delete(b.list, i, i+1)
				}
				if f, ok := b.tree.Drop(e); f != want || ok != there {
					t.Fatalf("P7.2: Drop(%v): %v, %v; want %v, %v", e, f, ok, want, there)
				}
			case 5:
				o := &band{b.tree.Split(e), slices.Clone(b.list[i:])}
				b.list = slices.Clone(b.list[:i])
				bands = append(bands, o)
			case 6:
				j := d.roll(len(bands))
				o := bands[j]
				may := j != k && (len(b.list) == 0 || len(o.list) == 0 || b.list[len(b.list)-1].key < o.list[0].key)
				if ok := b.tree.Join(o.tree); ok != may {
					t.Fatalf("P7.5: Join of %v and %v: %v", b.list, o.list, ok)
				}
				if may {
					b.list, o.list = append(b.list, o.list...), nil
					bands = slices.Delete(bands, j, j+1)
				}
			case 7:
				if r := b.tree.Rank(e); r != i {
					t.Fatalf("P7.2: Rank(%v) of %v: %d", e, b.list, r)
				}
				from, to := d.roll(90)-5, d.roll(90)-5
				want := text("")
				if x, y := max(from, 0), min(to, len(b.list)); x < y {
					want = glued(b.list[x:y])
				}
				if s := b.tree.Between(from, to); s != want {
					t.Fatalf("P7.3: Between(%d, %d) of %v: %q", from, to, b.list, s)
				}
			}
			for _, o := range bands {
				holds(t, o.tree, o.list)
			}
		}
		if round == 0 && len(bands) == 1 {
			t.Error("P7.5: no tree was parted")
		}
	}
}

// low checks a tree's height.
func low(t *testing.T, g *Tree[number, total], from string) {
	t.Helper()
	if g.Height() > bound(g.Len()) || g.Height() != tallness(g, g.root) {
		t.Errorf("P7.6: %s: Height of %d elements: %d, the longest way %d, the bound %d", from, g.Len(), g.Height(), tallness(g, g.root), bound(g.Len()))
	}
}

func TestTreesAreLow(t *testing.T) {
	const n = 3000
	orders := map[string]func(i int) int{
		"up":          func(i int) int { return i },
		"down":        func(i int) int { return -i },
		"from within": func(i int) int { return i * (1 - 2*(i%2)) },
		"to within":   func(i int) int { return (n - i) * (1 - 2*(i%2)) },
		"in steps":    func(i int) int { return i * 1001 % n },
	}
	for name, order := range orders {
		g := New[number, total](n)
		for i := range n {
			g.Put(number(order(i)))
			low(t, g, name)
		}
		if g.Len() != n {
			t.Errorf("P7.1: %s: Len %d", name, g.Len())
		}
		for i := range n {
			g.Drop(number(order(i * 7 % n)))
			low(t, g, name+", dropped")
		}
		for i := range n {
			g.Put(number(i))
		}
		for i := range n - 3 {
			g.Drop(number(i))
			low(t, g, name+", dropped in order")
		}
	}
}

func TestTreesAreLowWhenPartedAndJoined(t *testing.T) {
	const n = 2000
	g := New[number, total](n)
	for i := range n {
		g.Put(number(i))
	}
	d := dice(99)
	for range 1500 {
		at := d.roll(n)
		if d.roll(3) == 0 {
			at = d.roll(8)
		}
		h := g.Split(number(at))
		k := h.Split(number(at + d.roll(9)))
		low(t, g, "parted, ahead")
		low(t, h, "parted, within")
		low(t, k, "parted, behind")
		if !h.Join(k) || !g.Join(h) {
			t.Fatal("P7.5: Join is false")
		}
		low(t, g, "joined")
	}
	var parts []*Tree[number, total]
	for range n - 1 {
		parts = append(parts, g.Split(number(g.Len()-1)))
		low(t, g, "the last one parted")
	}
	for _, h := range slices.Backward(parts) {
		if !g.Join(h) {
			t.Fatal("P7.5: Join is false")
		}
		low(t, g, "one joined")
	}
	if g.Len() != n || !slices.IsSorted(g.All()) || g.Between(0, n) != n*(n-1)/2 {
		t.Errorf("P7.5: %d elements, their sum %d", g.Len(), g.Between(0, n))
	}
}

func TestCallsVisitFewNodes(t *testing.T) {
	for _, n := range []int{0, 1, 2, 3, 7, 8, 100, 1023, 5000, 60000} {
		g := New[number, total](n + 2)
		d := dice(n + 5)
		most, room := 0, 200*(bound(n)+4)
		few := func(name string, call func()) {
			before := g.Visits()
			call()
			most = max(most, g.Visits()-before)
			if g.Visits()-before > room {
				t.Errorf("P7.6: %s of %d elements visits %d nodes; the bound is %d", name, n, g.Visits()-before, room)
			}
		}
		for i := range n {
			few("Put", func() { g.Put(number(2 * i)) })
		}
		for range 300 {
			p, q, e := d.roll(n+1), d.roll(n+1), number(d.roll(2*n+3)-1)
			few("Len", func() { g.Len() })
			few("Find", func() { g.Find(e) })
			few("Rank", func() { g.Rank(e) })
			few("At", func() { g.At(p) })
			few("Between", func() { g.Between(p, q) })
			few("Between's tail", func() { g.Between(p, math.MaxInt) })
			for _, limit := range []total{0, total(p) * total(p), total(n) * total(n)} {
				reaches := func(ahead, of total) bool { return ahead+of > limit }
				under := func(ahead, of total) bool { return ahead < limit }
				few("First", func() { g.First(0, reaches) })
				few("First from within", func() { g.First(q, reaches) })
				few("Last", func() { g.Last(n, under) })
				few("Last to within", func() { g.Last(q, under) })
			}
			few("Put", func() { g.Put(e) })
			few("Put again", func() { g.Put(e) })
			few("Drop", func() { g.Drop(e) })
			if e%2 == 0 && int(e) < 2*n && e >= 0 {
				few("Put back", func() { g.Put(e) })
			}
			var h *Tree[number, total]
			few("Split", func() { h = g.Split(e) })
			few("Join", func() { g.Join(h) })
			few("Visits", func() { g.Visits() })
		}
		if g.Len() != n || (n > 0 && most == 0) {
			t.Errorf("P7.6: %d of %d elements; the most visits of a call are %d", g.Len(), n, most)
		}
	}
}

func TestVisitsAreCounted(t *testing.T) {
	g := New[number, total](4)
	g.Put(1)
	before := g.Visits()
	g.Find(1)
	if g.Visits() <= before || g.Visits() != g.pool.Visits() {
		t.Errorf("P7.6: Visits %d, the pool's %d, before Find %d", g.Visits(), g.pool.Visits(), before)
	}
}

func TestAllIsNewMemory(t *testing.T) {
	l := letters(12)
	g := planted(t, 12, l)
	a, b := g.All(), g.All()
	for i := range a {
		a[i] = entry{-1, "spoilt"}
	}
	_ = append(a, entry{-1, "spoilt"})
	if !slices.Equal(b, l) {
		t.Errorf("P7.7: two answers of All share memory: %v", b)
	}
	holds(t, g, l)
}

func TestWhatAllAnsweredStays(t *testing.T) {
	l := letters(12)
	g := planted(t, 12, l)
	a := g.All()
	g.Put(entry{50, "other"})
	g.Drop(entry{20, ""})
	g.Split(entry{60, ""})
	if !slices.Equal(a, l) {
		t.Errorf("P7.7: what All answered has changed: %v", a)
	}
}

func TestTheChaptersExample(t *testing.T) {
	g := New[number, total](3)
	for _, n := range []number{9, 2, 5} {
		g.Put(n)
	}
	passes := func(ahead, of total) bool { return ahead+of > 6 }
	if g.Rank(6) != 2 || g.Between(1, 3) != 14 || g.First(0, passes) != 1 {
		t.Errorf("P7.2 to P7.4: Rank %d, Between %d, First %d", g.Rank(6), g.Between(1, 3), g.First(0, passes))
	}
	if !sort.SliceIsSorted(g.All(), func(i, j int) bool { return g.All()[i] < g.All()[j] }) {
		t.Errorf("P7.1: All %v", g.All())
	}
}

// pinned is a sum whose zero value, a nil interface, has no method that could be called.
type pinned interface{ Plus(pinned) pinned }

type pin text

func (p pin) Plus(q pinned) pinned { return p + q.(pin) }

type pole int

func (p pole) Compare(q pole) int { return cmp.Compare(p, q) }
func (p pole) Sum() pinned        { return pin(rune('a' + p)) }

func TestSumsWhoseZeroValueIsNil(t *testing.T) {
	g := New[pole, pinned](5)
	for i := range 5 {
		g.Put(pole(i))
	}
	if s := g.Between(1, 4); s != pin("bcd") {
		t.Errorf("P7.3: Between(1, 4): %v", s)
	}
	if s := g.Between(4, 1); s != nil {
		t.Errorf("P7.3: Between(4, 1): %v", s)
	}
	if i := g.First(1, func(_, of pinned) bool { return strings.ContainsAny(string(of.(pin)), "ad") }); i != 3 {
		t.Errorf("P7.4: First: %d", i)
	}
}
