package bridge

import (
	"math"
	"math/bits"
	"slices"
	"testing"

	"whilom/api"
	"whilom/grove"
	"whilom/wave"
)

type tree = grove.Tree[wave.Mark, wave.Swell]

// lost is an insertion's mark whose item isn't there, left one's whose item is; ate is a deletion's that took an item, free one's that took nothing.
func lost(x api.Item) wave.Mark { return wave.Mark{Op: api.Op{Insert: true, Item: x}} }
func left(x api.Item) wave.Mark { return wave.Mark{Op: api.Op{Insert: true, Item: x}, Here: true} }
func ate(x api.Item) wave.Mark  { return wave.Mark{Took: found(x)} }
func free() wave.Mark           { return wave.Mark{} }

func found(x api.Item) api.Took { return api.Took{Found: true, Item: x} }

// marks are those of letters, at the times 0, 1 ..: g an insertion whose item is gone, h one whose item is here, d a deletion that took an item, f one that took nothing; the keys are 10, 20 ..
func marks(letters string) []wave.Mark {
	ms := make([]wave.Mark, len(letters))
	for i, c := range letters {
		x := api.Item{Key: 10 * (i + 1), ID: i}
		switch c {
		case 'g':
			ms[i] = lost(x)
		case 'h':
			ms[i] = left(x)
		case 'd':
			ms[i] = ate(x)
		default:
			ms[i] = free()
		}
		ms[i].Op.Time = i
	}
	return ms
}

// planted is a tree of marks, put in in an order that isn't theirs.
func planted(t *testing.T, ms []wave.Mark) *tree {
	t.Helper()
	w := wave.New(len(ms))
	for i := range ms {
		if !w.Put(ms[len(ms)-1-i]) {
			t.Fatalf("no room for %d marks", len(ms))
		}
	}
	return w
}

// dice is a row of numbers that looks random and is the same each time.
type dice uint64

func (d *dice) roll(n int) int {
	*d ^= *d << 13
	*d ^= *d >> 7
	*d ^= *d << 17
	return int(uint64(*d) % uint64(n))
}

// thrown are marks of any kinds at the times 0, 1 .., with fields that say nothing of their kind as well.
func thrown(d *dice, n int) []wave.Mark {
	ms := make([]wave.Mark, n)
	for i := range ms {
		ms[i] = wave.Mark{
			Op:   api.Op{Time: i, Insert: d.roll(2) == 0, Item: api.Item{Key: d.roll(9) - 4, ID: d.roll(9) - 4}},
			Here: d.roll(3) == 0,
			Took: api.Took{Found: d.roll(2) == 0, Item: api.Item{Key: d.roll(9) - 4, ID: d.roll(9) - 4}},
		}
	}
	return ms
}

// words are all texts of at most so many of the letters.
func words(length int, letters string) []string {
	list := []string{""}
	for from := 0; length > 0; length-- {
		to := len(list)
		for ; from < to; from++ {
			for _, c := range letters {
				list = append(list, list[from]+string(c))
			}
		}
	}
	return list
}

// weight is a mark's: 1 of an insertion whose item isn't there, 0 of one whose item is, -1 of a deletion.
func weight(m wave.Mark) int {
	switch {
	case !m.Op.Insert:
		return -1
	case m.Here:
		return 0
	}
	return 1
}

// heights are those at all places, each made from the one ahead of it.
func heights(ms []wave.Mark, base int) []int {
	list := []int{base}
	for _, m := range ms {
		base += weight(m)
		list = append(list, base)
	}
	return list
}

// place is what p counts as, of n marks.
func place(p, n int) int {
	switch {
	case p < 0:
		return 0
	case p > n:
		return n
	}
	return p
}

// plainNext and plainPrior go from place to place.
func plainNext(hs []int, p int) int {
	for q := place(p, len(hs)-1); q < len(hs); q++ {
		if hs[q] <= 0 {
			return q
		}
	}
	return -1
}

func plainPrior(hs []int, p int) int {
	q := place(p, len(hs)-1)
	for q >= 0 && hs[q] > 0 {
		q--
	}
	return q
}

// behind tells whether an item is behind another one.
func behind(x, y api.Item) bool {
	if x.Key != y.Key {
		return x.Key > y.Key
	}
	return x.ID > y.ID
}

// plainBest and plainLeast hold each insertion's item against the one that stood out so far.
func plainBest(ms []wave.Mark, p int) api.Took {
	var best api.Took
	for _, m := range ms[place(p, len(ms)):] {
		if m.Op.Insert && !m.Here && (!best.Found || behind(m.Op.Item, best.Item)) {
			best = found(m.Op.Item)
		}
	}
	return best
}

func plainLeast(ms []wave.Mark, p int) api.Took {
	var least api.Took
	for _, m := range ms[:place(p, len(ms))] {
		if m.Op.Insert && m.Here && (!least.Found || behind(least.Item, m.Op.Item)) {
			least = found(m.Op.Item)
		}
	}
	return least
}

// alike holds all calls at a place and from a base against a plain list.
func alike(t *testing.T, w *tree, ms []wave.Mark, p, base int) {
	t.Helper()
	hs := heights(ms, base)
	if got, want := Height(w, p, base), hs[place(p, len(ms))]; got != want {
		t.Fatalf("P10.1: %v: Height at %d from %d: %d; want %d", ms, p, base, got, want)
	}
	if got, want := Next(w, p, base), plainNext(hs, p); got != want {
		t.Fatalf("P10.1: %v: Next from %d on, from %d: %d; want %d", ms, p, base, got, want)
	}
	if got, want := Prior(w, p, base), plainPrior(hs, p); got != want {
		t.Fatalf("P10.1: %v: Prior up to %d, from %d: %d; want %d", ms, p, base, got, want)
	}
	if got, want := Best(w, p), plainBest(ms, p); got != want {
		t.Fatalf("P10.2: %v: Best from %d on: %v; want %v", ms, p, got, want)
	}
	if got, want := Least(w, p), plainLeast(ms, p); got != want {
		t.Fatalf("P10.2: %v: Least ahead of %d: %v; want %v", ms, p, got, want)
	}
}

// everywhere holds all calls at all places, and beyond them, from a few bases against a plain list.
func everywhere(t *testing.T, w *tree, ms []wave.Mark) {
	t.Helper()
	for p := -2; p <= len(ms)+2; p++ {
		for base := -3; base <= 3; base++ {
			alike(t, w, ms, p, base)
		}
	}
}

func TestHeightByHand(t *testing.T) {
	for _, r := range []struct {
		letters       string
		p, base, want int
	}{
		{"gd", 0, 0, 0}, {"gd", 1, 0, 1}, {"gd", 2, 0, 0}, // as the chapter has it
		{"", 0, 0, 0}, {"", 0, 7, 7}, {"", 5, -7, -7}, {"", -5, 3, 3},
		{"g", 1, 0, 1}, {"h", 1, 0, 0}, {"d", 1, 0, -1}, {"f", 1, 0, -1},
		{"gghd", 2, 0, 2}, {"gghd", 3, 0, 2}, {"gghd", 4, 0, 1}, {"gghd", 4, -5, -4}, {"gghd", 4, 5, 6},
		{"dfgg", 1, 0, -1}, {"dfgg", 2, 0, -2}, {"dfgg", 4, 0, 0},
		{"ggg", -1, 4, 4}, {"ggg", 4, 4, 7}, {"ggg", math.MinInt, 4, 4}, {"ggg", math.MaxInt, 4, 7},
		{"ggg", 3, 1 << 40, 1<<40 + 3}, {"ddd", 3, -1 << 40, -1<<40 - 3},
	} {
		if got := Height(planted(t, marks(r.letters)), r.p, r.base); got != r.want {
			t.Errorf("P10.1: Height(%q, %d, %d): %d; want %d", r.letters, r.p, r.base, got, r.want)
		}
	}
}

func TestNextAndPriorByHand(t *testing.T) {
	for _, r := range []struct {
		letters              string
		p, base, next, prior int
	}{
		{"gd", 0, 0, 0, 0}, {"gd", 1, 0, 2, 0}, {"gd", 2, 0, 2, 2}, // as the chapter has it: 0 and 2
		{"", 0, 0, 0, 0}, {"", 0, -1, 0, 0}, {"", 0, 1, -1, -1}, {"", 9, 0, 0, 0}, {"", -9, 0, 0, 0}, {"", 9, 1, -1, -1},
		{"g", 0, 0, 0, 0}, {"g", 1, 0, -1, 0}, {"g", 1, -1, 1, 1}, {"g", 0, 1, -1, -1}, {"g", 1, 1, -1, -1}, // 1 is a bridge from below 0 alone
		{"d", 0, 1, 1, -1}, {"d", 1, 1, 1, 1}, {"d", 0, 2, -1, -1}, {"d", 1, 2, -1, -1}, {"f", 0, 1, 1, -1},
		{"h", 0, 0, 0, 0}, {"h", 1, 0, 1, 1}, {"h", 0, 1, -1, -1}, {"h", 1, 1, -1, -1}, // its item isn't taken: all stays as it was
		{"ggdhd", 1, 0, 5, 0}, {"ggdhd", 4, 0, 5, 0}, {"ggdhd", 5, 0, 5, 5},
		{"gdgdgd", 1, 0, 2, 0}, {"gdgdgd", 2, 0, 2, 2}, {"gdgdgd", 3, 0, 4, 2}, {"gdgdgd", 5, 0, 6, 4},
		{"gdgdgd", 1, 1, -1, -1}, {"gdgdgd", 3, -1, 3, 3}, // from a base
		{"ddgg", 2, 0, 2, 2}, {"ddgg", 3, 0, 3, 3}, {"ddgggg", 5, 0, -1, 4}, {"ddgggg", 6, 0, -1, 4}, // below 0 is one too
		{"ddgggg", 0, 1, 1, -1}, {"ddgggg", 1, 1, 1, 1}, {"ddgggg", 4, 1, -1, 3}, {"ddgggg", 6, 1, -1, 3},
		{"ggdd", -1, 0, 0, 0}, {"ggdd", 5, 0, 4, 4}, {"ggdd", -1, 2, -1, -1}, {"ggdd", 5, 1, -1, -1},
		{"ggd", math.MinInt, 0, 0, 0}, {"ggd", math.MaxInt, 0, -1, 0}, {"ggd", math.MinInt, -1, 0, 0}, {"ggd", math.MaxInt, -1, 3, 3},
	} {
		w := planted(t, marks(r.letters))
		if got := Next(w, r.p, r.base); got != r.next {
			t.Errorf("P10.1: Next(%q, %d, %d): %d; want %d", r.letters, r.p, r.base, got, r.next)
		}
		if got := Prior(w, r.p, r.base); got != r.prior {
			t.Errorf("P10.1: Prior(%q, %d, %d): %d; want %d", r.letters, r.p, r.base, got, r.prior)
		}
	}
}

func TestBestAndLeastByHand(t *testing.T) {
	low, zero, high := api.Item{Key: -5, ID: 2}, api.Item{}, api.Item{Key: -5, ID: 3}
	for _, r := range []struct {
		ms          []wave.Mark
		p           int
		best, least api.Took
	}{
		{nil, 0, api.Took{}, api.Took{}}, {nil, 3, api.Took{}, api.Took{}}, {nil, -3, api.Took{}, api.Took{}},
		{[]wave.Mark{lost(zero)}, 0, found(zero), api.Took{}}, {[]wave.Mark{lost(zero)}, 1, api.Took{}, api.Took{}},
		{[]wave.Mark{left(zero)}, 0, api.Took{}, api.Took{}}, {[]wave.Mark{left(zero)}, 1, api.Took{}, found(zero)},
		{[]wave.Mark{lost(low)}, 0, found(low), api.Took{}}, {[]wave.Mark{left(high)}, 1, api.Took{}, found(high)}, // not held against the zero item
		{[]wave.Mark{ate(zero), free(), ate(high)}, 0, api.Took{}, api.Took{}}, {[]wave.Mark{ate(low), free()}, 2, api.Took{}, api.Took{}}, // deletions insert nothing
		{[]wave.Mark{lost(low), lost(high), lost(low)}, 0, found(high), api.Took{}}, {[]wave.Mark{lost(low), lost(high), lost(low)}, 2, found(low), api.Took{}},
		{[]wave.Mark{lost(low), lost(high)}, 1, found(high), api.Took{}}, {[]wave.Mark{lost(high), lost(low)}, 1, found(low), api.Took{}}, // the mark at p is of those from p on
		{[]wave.Mark{left(high), left(low), left(zero)}, 3, api.Took{}, found(low)}, {[]wave.Mark{left(high), left(low), left(zero)}, 1, api.Took{}, found(high)},
		{[]wave.Mark{left(high), left(low)}, 2, api.Took{}, found(low)}, {[]wave.Mark{left(high), left(low)}, 0, api.Took{}, api.Took{}},
		{[]wave.Mark{left(high), lost(low), lost(high), left(low)}, 1, found(high), found(high)}, {[]wave.Mark{left(low), lost(high), lost(low), left(high)}, 2, found(low), found(low)},
		{[]wave.Mark{lost(low), left(high)}, -1, found(low), api.Took{}}, {[]wave.Mark{lost(low), left(high)}, 3, api.Took{}, found(high)},
		{[]wave.Mark{lost(low), left(high)}, math.MinInt, found(low), api.Took{}}, {[]wave.Mark{lost(low), left(high)}, math.MaxInt, api.Took{}, found(high)},
	} {
		for i := range r.ms {
			r.ms[i].Op.Time = 7 * i
		}
		w := planted(t, r.ms)
		if got := Best(w, r.p); got != r.best {
			t.Errorf("P10.2: %v: Best from %d on: %v; want %v", r.ms, r.p, got, r.best)
		}
		if got := Least(w, r.p); got != r.least {
			t.Errorf("P10.2: %v: Least ahead of %d: %v; want %v", r.ms, r.p, got, r.least)
		}
	}
}

func TestAllShortLists(t *testing.T) {
	for _, letters := range words(6, "ghd") {
		ms := marks(letters)
		everywhere(t, planted(t, ms), ms)
	}
	for _, letters := range words(4, "ghdf") {
		ms := marks(letters)
		everywhere(t, planted(t, ms), ms)
	}
}

func TestThrownLists(t *testing.T) {
	d := dice(20261120)
	for n := range 80 {
		ms := thrown(&d, n)
		w := planted(t, ms)
		everywhere(t, w, ms)
		for range 20 {
			alike(t, w, ms, d.roll(n+1), d.roll(2*n+9)-n-4)
		}
	}
}

// TestSteepLists climb and fall far from 0, so that a bridge may be far off on either side.
func TestSteepLists(t *testing.T) {
	for _, n := range []int{1, 2, 3, 7, 8, 20} {
		up, down, flat := make([]byte, n), make([]byte, n), make([]byte, n)
		for i := range n {
			up[i], down[i], flat[i] = 'g', 'd', 'h'
		}
		u, d, h := string(up), string(down), string(flat)
		for _, letters := range []string{u, d, h, u + d, d + u, u + d + u, d + u + u + d, h + u + h + d + h, u + h + d + d + u, "g" + h + "d" + h, h + d + "gd" + u} {
			ms := marks(letters)
			w := planted(t, ms)
			for p := -1; p <= len(ms)+1; p++ {
				for base := -n - 2; base <= n+2; base++ {
					alike(t, w, ms, p, base)
				}
			}
		}
	}
}

func TestEdgesOfBases(t *testing.T) {
	const far = 1 << 40
	for _, letters := range words(4, "ghd") {
		ms := marks(letters)
		w := planted(t, ms)
		for p := -1; p <= len(ms)+1; p++ {
			for _, base := range []int{-far, 1 - far, far - 1, far} {
				alike(t, w, ms, p, base)
			}
		}
	}
}

func TestEdgesOfPlaces(t *testing.T) {
	for _, letters := range append(words(3, "ghd"), "ggdhdgd", "ddgggdh") {
		ms := marks(letters)
		w := planted(t, ms)
		for _, p := range []int{math.MinInt, math.MinInt + 1, -1 << 62, -1 << 40, 1 << 40, 1 << 62, math.MaxInt - 1, math.MaxInt} {
			for base := -3; base <= 3; base++ {
				alike(t, w, ms, p, base)
			}
		}
	}
}

// TestEveryCallEnds at arguments of which nothing else is promised.
func TestEveryCallEnds(t *testing.T) {
	d := dice(104)
	for _, n := range []int{0, 1, 2, 50} {
		w := planted(t, thrown(&d, n))
		for _, base := range []int{math.MinInt, math.MinInt + 1, -1 << 62, 1 << 62, math.MaxInt - 1, math.MaxInt} {
			for _, p := range []int{math.MinInt, -1, 0, 1, n, n + 1, math.MaxInt} {
				Height(w, p, base)
				Next(w, p, base)
				Prior(w, p, base)
			}
		}
	}
	for p := -2; p <= 2; p++ {
		for base := -2; base <= 2; base++ {
			alike(t, nil, nil, p, base)
		}
	}
}

func TestWhatWasPartedHasPlacesOfItsOwn(t *testing.T) {
	d := dice(105)
	for range 20 {
		ms := thrown(&d, 15)
		for i := range len(ms) + 1 {
			w := planted(t, ms)
			rest := w.Split(wave.Key(i))
			everywhere(t, w, ms[:i])
			everywhere(t, rest, ms[i:])
			if !w.Join(rest) {
				t.Fatalf("parted at %d, both don't join", i)
			}
			everywhere(t, rest, nil)
			everywhere(t, w, ms)
		}
	}
}

// TestWhileTheTreeChanges asks after each mark that comes, goes or becomes another one.
func TestWhileTheTreeChanges(t *testing.T) {
	d := dice(106)
	for range 10 {
		w := wave.New(30)
		var ms []wave.Mark
		for range 60 {
			m := thrown(&d, 1)[0]
			m.Op.Time = d.roll(40) - 20
			i, there := slices.BinarySearchFunc(ms, m, wave.Mark.Compare)
			switch {
			case there && d.roll(2) == 0:
				w.Drop(m)
				ms = slices.Delete(ms, i, i+1)
			case w.Put(m) && there:
				ms[i] = m
			case w.Len() > len(ms):
				ms = slices.Insert(ms, i, m)
			}
			everywhere(t, w, ms)
		}
	}
}

// TestBridgesOfARun makes marks of the run of a queue's operations: at a bridge from 0 on no item is there that is taken behind it.
func TestBridgesOfARun(t *testing.T) {
	d := dice(107)
	for range 200 {
		ms, from, to := ran(&d, 24)
		w := planted(t, ms)
		for p := range len(ms) + 1 {
			spans := 0
			for i := range from {
				if from[i] < p && p <= to[i] {
					spans++
				}
			}
			if got := Height(w, p, 0); got != spans {
				t.Fatalf("P10.1: %v: Height at %d: %d; %d items are taken behind it", ms, p, got, spans)
			}
		}
	}
}

// ran are the marks of a run in which each deletion finds an item; of each item that was taken where it was inserted, and where it was taken.
func ran(d *dice, n int) (ms []wave.Mark, from, to []int) {
	type held struct {
		item api.Item
		at   int
	}
	var there []held
	for i := range n {
		if len(there) == 0 || d.roll(5) < 3 {
			x := api.Item{Key: d.roll(9), ID: i}
			there = append(there, held{x, i})
			ms = append(ms, left(x))
		} else {
			least := 0
			for k := range there {
				if behind(there[least].item, there[k].item) {
					least = k
				}
			}
			ms[there[least].at].Here = false
			from, to = append(from, there[least].at), append(to, i)
			ms = append(ms, ate(there[least].item))
			there = slices.Delete(there, least, least+1)
		}
		ms[i].Op.Time = i
	}
	return ms, from, to
}

func TestTheTreeStaysAsItIs(t *testing.T) {
	d := dice(108)
	for n := range 40 {
		ms := thrown(&d, n)
		w := planted(t, ms)
		height := w.Height()
		for p := -1; p <= n+1; p++ {
			Height(w, p, 0)
			Next(w, p, 1)
			Prior(w, p, -1)
			Best(w, p)
			Least(w, p)
		}
		if w.Len() != n || w.Height() != height || !slices.Equal(w.All(), ms) {
			t.Fatalf("P10.3: %v are %v after all calls", ms, w.All())
		}
		for i, m := range ms {
			if got, ok := w.At(i); !ok || got != m {
				t.Fatalf("P10.3: the mark at %d is %v; it was %v", i, got, m)
			}
		}
	}
}

// few holds the visits of all calls at a place and from a base against the bound of P10.3.
func few(t *testing.T, w *tree, p, base int) {
	t.Helper()
	room := 1000 * (2 + 3*(bits.Len(uint(w.Len()+1))-1) + 4)
	for _, call := range []struct {
		name string
		ask  func()
	}{
		{"Height", func() { Height(w, p, base) }}, {"Next", func() { Next(w, p, base) }}, {"Prior", func() { Prior(w, p, base) }},
		{"Best", func() { Best(w, p) }}, {"Least", func() { Least(w, p) }},
	} {
		before := w.Visits()
		call.ask()
		if n := w.Visits() - before; n > room {
			t.Fatalf("P10.3: %s of %d marks at %d from %d visits %d nodes; the bound is %d", call.name, w.Len(), p, base, n, room)
		}
	}
}

// TestGreatTrees are great enough that going from mark to mark visits more than the bound.
func TestGreatTrees(t *testing.T) {
	const n = 100000
	d := dice(109)
	for _, shape := range []struct {
		name string
		mark func(i int) wave.Mark
	}{
		{"none taken", func(i int) wave.Mark { return left(api.Item{Key: -i}) }},
		{"one span", func(i int) wave.Mark {
			if i < n/2 {
				return lost(api.Item{Key: i})
			}
			return free()
		}},
		{"short spans", func(i int) wave.Mark {
			if i%2 == 0 {
				return lost(api.Item{Key: i})
			}
			return ate(api.Item{Key: i - 1})
		}},
		{"nothing to take", func(int) wave.Mark { return free() }},
		{"thrown", func(int) wave.Mark { return thrown(&d, 1)[0] }},
	} {
		ms := make([]wave.Mark, n)
		for i := range ms {
			ms[i] = shape.mark(i)
			ms[i].Op.Time = i
		}
		w := planted(t, ms)
		for _, p := range []int{-1, 0, 1, 2, 3, n / 3, n/2 - 1, n / 2, n/2 + 1, n - 2, n - 1, n, n + 1, math.MaxInt} {
			for _, base := range []int{-1 << 40, -n, -n / 2, -1, 0, 1, 2, 999, n/2 - 1, n / 2, n, 1 << 40} {
				few(t, w, p, base)
			}
			base := d.roll(7) - 3
			if h, want := Height(w, p, base), heights(ms, base)[place(p, n)]; h != want {
				t.Errorf("P10.1: %s: Height at %d from %d: %d; want %d", shape.name, p, base, h, want)
			}
			if q, want := Next(w, p, base), plainNext(heights(ms, base), p); q != want {
				t.Errorf("P10.1: %s: Next from %d on, from %d: %d; want %d", shape.name, p, base, q, want)
			}
			if q, want := Prior(w, p, base), plainPrior(heights(ms, base), p); q != want {
				t.Errorf("P10.1: %s: Prior up to %d, from %d: %d; want %d", shape.name, p, base, q, want)
			}
			if b, want := Best(w, p), plainBest(ms, p); b != want {
				t.Errorf("P10.2: %s: Best from %d on: %v; want %v", shape.name, p, b, want)
			}
			if b, want := Least(w, p), plainLeast(ms, p); b != want {
				t.Errorf("P10.2: %s: Least ahead of %d: %v; want %v", shape.name, p, b, want)
			}
		}
		for range 300 {
			few(t, w, d.roll(n+1), d.roll(2*n)-n)
		}
	}
}
