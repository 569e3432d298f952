package legal

import (
	"math"
	"slices"
	"testing"

	"whilom/api"
	"whilom/grove"
	"whilom/wave"
)

type tree = grove.Tree[wave.Mark, wave.Swell]

// marks are those of letters, at the times 0, 10 ..: i an insertion, h one whose item is here, d a deletion, e one that took an item.
func marks(letters string) []wave.Mark {
	ms := make([]wave.Mark, len(letters))
	for i, c := range letters {
		x := api.Item{Key: i, ID: i}
		switch c {
		case 'i':
			ms[i].Op = api.Op{Insert: true, Item: x}
		case 'h':
			ms[i] = wave.Mark{Op: api.Op{Insert: true, Item: x}, Here: true}
		case 'e':
			ms[i].Took = api.Took{Found: true, Item: x}
		}
		ms[i].Op.Time = 10 * i
	}
	return ms
}

// planted is a tree of marks, put in in an order that isn't theirs.
func planted(t *testing.T, ms []wave.Mark) *tree {
	t.Helper()
	w := wave.New(len(ms))
	for i := range ms {
		if !w.Put(ms[len(ms)-1-i]) {
			t.Fatalf("no room for %d marks", len(ms))
		}
	}
	return w
}

// dice is a row of numbers that looks random and is the same each time.
type dice uint64

func (d *dice) roll(n int) int {
	*d ^= *d << 13
	*d ^= *d >> 7
	*d ^= *d << 17
	return int(uint64(*d) % uint64(n))
}

// words are all texts of at most so many of the letters.
func words(length int, letters string) []string {
	list := []string{""}
	for from := 0; length > 0; length-- {
		to := len(list)
		for ; from < to; from++ {
			for _, c := range letters {
				list = append(list, list[from]+string(c))
			}
		}
	}
	return list
}

// counts are those at all places, each made from the one ahead of it.
func counts(ms []wave.Mark) []int {
	list := []int{0}
	for i, m := range ms {
		if m.Op.Insert {
			list = append(list, list[i]+1)
		} else {
			list = append(list, list[i]-1)
		}
	}
	return list
}

// place is what p counts as, of n marks.
func place(p, n int) int {
	if p < 0 {
		return 0
	}
	if p > n {
		return n
	}
	return p
}

// plainLow goes from place to place.
func plainLow(ms []wave.Mark, from, to int) int {
	cs := counts(ms)
	p := place(from, len(ms))
	low := cs[p]
	for ; p <= to && p <= len(ms); p++ {
		if cs[p] < low {
			low = cs[p]
		}
	}
	return low
}

func plainRight(ms []wave.Mark) bool {
	for _, c := range counts(ms) {
		if c < 0 {
			return false
		}
	}
	return true
}

// placed is the place at which the mark of a time is, or would be, and whether it is there.
func placed(ms []wave.Mark, time int) (int, bool) {
	for i, m := range ms {
		if m.Op.Time >= time {
			return i, m.Op.Time == time
		}
	}
	return len(ms), false
}

// with and without are other lists, of a mark more and of one less.
func with(ms []wave.Mark, m wave.Mark) []wave.Mark {
	i, _ := placed(ms, m.Op.Time)
	return slices.Insert(slices.Clone(ms), i, m)
}

func without(ms []wave.Mark, time int) []wave.Mark {
	i, _ := placed(ms, time)
	return slices.Delete(slices.Clone(ms), i, i+1)
}

// The plain answers make the edit in a list and run through that.
func plainDelete(ms []wave.Mark, time int) bool {
	_, ok := placed(ms, time)
	return !ok && plainRight(with(ms, wave.Key(time)))
}

func plainRevoke(ms []wave.Mark, time int) bool {
	_, ok := placed(ms, time)
	return ok && plainRight(without(ms, time))
}

func plainMove(ms []wave.Mark, time, to int) bool {
	i, ok := placed(ms, time)
	if !ok {
		return false
	}
	m, others := ms[i], without(ms, time)
	if _, taken := placed(others, to); taken {
		return false
	}
	m.Op.Time = to
	return plainRight(with(others, m))
}

// lows holds Low between all places, and beyond them, and Right against a plain list.
func lows(t *testing.T, w *tree, ms []wave.Mark) {
	t.Helper()
	for from := -2; from <= len(ms)+2; from++ {
		for to := -2; to <= len(ms)+2; to++ {
			if got, want := Low(w, from, to), plainLow(ms, from, to); got != want {
				t.Fatalf("P11.1: %v: Low from %d up to %d: %d; want %d", counts(ms), from, to, got, want)
			}
		}
	}
	if got, want := Right(w), plainRight(ms); got != want {
		t.Fatalf("P11.1: %v: Right: %v; want %v", counts(ms), got, want)
	}
}

// edits holds what may be of some times against a plain list, which must be legal.
func edits(t *testing.T, w *tree, ms []wave.Mark, times []int) {
	t.Helper()
	for _, time := range times {
		if got, want := MayDelete(w, time), plainDelete(ms, time); got != want {
			t.Fatalf("P11.2: %v: MayDelete at %d: %v; want %v", ms, time, got, want)
		}
		if got, want := MayRevoke(w, time), plainRevoke(ms, time); got != want {
			t.Fatalf("P11.2: %v: MayRevoke of %d: %v; want %v", ms, time, got, want)
		}
		for _, to := range times {
			if got, want := MayMove(w, time, to), plainMove(ms, time, to); got != want {
				t.Fatalf("P11.2: %v: MayMove of %d to %d: %v; want %v", ms, time, to, got, want)
			}
		}
	}
}

// around are the times of marks of letters, and those between and beside them.
func around(n int) []int {
	var times []int
	for time := -10; time <= 10*n; time += 5 {
		times = append(times, time)
	}
	return times
}

// all holds all calls against a plain list; what may be just of a legal one.
func all(t *testing.T, w *tree, ms []wave.Mark, times []int) {
	t.Helper()
	lows(t, w, ms)
	if plainRight(ms) {
		edits(t, w, ms, times)
	}
}

// legalMarks are some that a queue could run through, at times with some room between.
func legalMarks(d *dice, n int) []wave.Mark {
	letters := make([]byte, n)
	there := 0
	for i := range letters {
		if there == 0 || d.roll(9) < 4 {
			letters[i] = "ih"[d.roll(2)]
			there++
		} else {
			letters[i] = "de"[d.roll(2)]
			there--
		}
	}
	return marks(string(letters))
}

func TestLowByHand(t *testing.T) {
	for _, r := range []struct {
		letters        string
		from, to, want int
	}{
		{"", 0, 0, 0}, {"", 5, 9, 0}, {"", -9, -5, 0}, {"", 9, -9, 0},
		{"i", 0, 0, 0}, {"i", 0, 1, 0}, {"i", 1, 1, 1}, {"i", 1, 0, 1}, {"i", 2, 9, 1}, {"i", -9, -5, 0},
		{"d", 0, 0, 0}, {"d", 0, 1, -1}, {"d", 1, 1, -1}, {"d", 1, 0, -1}, {"d", 2, 9, -1}, {"d", -9, -5, 0},
		{"ii", 1, 2, 1}, {"ii", 2, 1, 2}, {"ii", 3, 1, 2}, // from itself, if there is none between; it is never a place ahead of that
		{"iiddi", 0, 5, 0}, {"iiddi", 0, 3, 0}, {"iiddi", 1, 3, 1}, {"iiddi", 1, 4, 0}, {"iiddi", 2, 3, 1}, {"iiddi", 4, 5, 0}, {"iiddi", 5, 4, 1},
		{"ddii", 0, 4, -2}, {"ddii", 0, 1, -1}, {"ddii", 3, 4, -1}, {"ddii", 4, 4, 0}, // illegal ones have counts too
		{"hehe", 0, 4, 0}, {"hehe", 1, 1, 1}, {"hehe", 3, 3, 1}, // what became of them counts for nothing
		{"iid", -1, 99, 0}, {"iid", math.MinInt, math.MaxInt, 0}, {"iid", math.MaxInt, math.MinInt, 1}, {"iid", math.MinInt, math.MinInt, 0}, {"iid", math.MaxInt, math.MaxInt, 1}, {"iid", 1, math.MaxInt, 1},
	} {
		if got := Low(planted(t, marks(r.letters)), r.from, r.to); got != r.want {
			t.Errorf("P11.1: Low(%q, %d, %d): %d; want %d", r.letters, r.from, r.to, got, r.want)
		}
	}
}

func TestRightByHand(t *testing.T) {
	for letters, want := range map[string]bool{
		"": true, "i": true, "h": true, "d": false, "e": false, "id": true, "di": false, "idd": false, "iddi": false, "iidd": true,
		"idid": true, "iiddd": false, "iiidddi": true, "diii": false, "iiiiid": true, "hehe": true, "heeh": false,
	} {
		if got := Right(planted(t, marks(letters))); got != want {
			t.Errorf("P11.1: Right(%q): %v; want %v", letters, got, want)
		}
	}
}

// TestTheChapter's examples: an insertion at 5, then a deletion at 6 as well.
func TestTheChapter(t *testing.T) {
	w := wave.New(2)
	w.Put(wave.Mark{Op: api.Op{Time: 5, Insert: true}})
	if !MayDelete(w, 6) || MayDelete(w, 4) || MayDelete(w, 5) {
		t.Error("P11.2: behind an insertion at 5 a deletion may be, not ahead of it, nor at its time")
	}
	if !MayRevoke(w, 5) || MayRevoke(w, 4) || MayRevoke(w, 6) {
		t.Error("P11.2: an insertion at 5 may be revoked; there is no other one")
	}
	w.Put(wave.Key(6))
	if MayRevoke(w, 5) || !MayRevoke(w, 6) {
		t.Error("P11.2: with a deletion behind it the insertion may not be revoked; the deletion may")
	}
	if MayMove(w, 5, 7) || MayMove(w, 6, 4) || MayMove(w, 5, 6) || MayMove(w, 6, 5) {
		t.Error("P11.2: neither may pass the other one, or be at its time")
	}
	if !MayMove(w, 5, 4) || !MayMove(w, 6, 9) || !MayMove(w, 5, 5) || !MayMove(w, 6, 6) || !MayMove(w, 5, math.MinInt) || !MayMove(w, 6, math.MaxInt) {
		t.Error("P11.2: each may go away from the other one, or stay")
	}
}

func TestMayByHand(t *testing.T) {
	for _, r := range []struct {
		letters        string
		time           int
		delete, revoke bool
	}{
		{"", 0, false, false}, {"i", -1, false, false}, {"i", 0, false, true}, {"i", 1, true, false},
		{"iiddi", 5, false, false}, {"iiddi", 0, false, false}, {"iiddi", 20, false, true}, {"iiddi", 40, false, true}, {"iiddi", 41, true, false},
		{"idi", 0, false, false}, {"idi", 5, false, false}, {"idi", 15, false, false}, {"idi", 20, false, true}, {"idi", 25, true, false},
		{"iid", -1, false, false}, {"iid", 5, true, false}, {"iid", 15, true, false}, {"iid", 0, false, true}, {"iid", 10, false, true}, // the other one's item is there for it
		{"iididi", 15, true, false}, {"iididi", 25, true, false}, {"iididi", -1, false, false}, {"iididi", 0, false, true},
		{"ii", math.MaxInt, true, false}, {"ii", math.MinInt, false, false},
	} {
		w := planted(t, marks(r.letters))
		if got := MayDelete(w, r.time); got != r.delete {
			t.Errorf("P11.2: MayDelete(%q, %d): %v; want %v", r.letters, r.time, got, r.delete)
		}
		if got := MayRevoke(w, r.time); got != r.revoke {
			t.Errorf("P11.2: MayRevoke(%q, %d): %v; want %v", r.letters, r.time, got, r.revoke)
		}
	}
}

func TestMayMoveByHand(t *testing.T) {
	for _, r := range []struct {
		letters  string
		time, to int
		want     bool
	}{
		{"", 0, 0, false}, {"", 0, 1, false}, {"i", 1, 2, false}, {"i", 1, 1, false}, {"i", 1, 0, false}, // no such mark
		{"i", 0, 0, true}, {"i", 0, 9, true}, {"i", 0, -9, true}, {"i", 0, math.MaxInt, true}, {"i", 0, math.MinInt, true},
		{"ii", 0, 10, false}, {"ii", 10, 0, false}, {"iid", 20, 10, false}, {"iid", 10, 20, false}, // another one is there
		{"iid", 0, 15, true}, {"iid", 0, 25, true}, {"iid", 10, 25, true}, {"iidd", 10, 25, true}, {"iidd", 10, 35, false}, {"iidd", 0, 35, false},
		{"iid", 20, 5, true}, {"iid", 20, -5, false}, {"iidd", 30, 15, true}, {"iidd", 20, 5, true}, {"iidd", 30, 5, true}, {"iidd", 20, -5, false},
		{"idid", 30, 15, false}, {"idid", 30, 5, false}, {"idid", 10, 25, true}, {"idid", 20, 5, true}, {"idid", 0, 15, false}, {"idid", 0, 25, false}, {"idid", 20, 35, false},
		{"idi", 0, 25, false}, {"idi", 20, -5, true}, {"idi", 10, 25, true}, {"iidid", 0, 25, true}, {"iidid", 0, 35, true}, {"iidid", 0, 45, true}, {"iiddi", 0, 25, true}, {"iiddi", 0, 35, false}, {"iiddi", 0, 45, false},
	} {
		if got := MayMove(planted(t, marks(r.letters)), r.time, r.to); got != r.want {
			t.Errorf("P11.2: MayMove(%q, %d, %d): %v; want %v", r.letters, r.time, r.to, got, r.want)
		}
	}
}

func TestAllShortLists(t *testing.T) {
	for _, letters := range words(8, "id") {
		ms := marks(letters)
		all(t, planted(t, ms), ms, around(len(ms)))
	}
	for _, letters := range words(4, "ihde") {
		ms := marks(letters)
		all(t, planted(t, ms), ms, around(len(ms)))
	}
}

func TestThrownLists(t *testing.T) {
	d := dice(11)
	for n := range 40 {
		ms := legalMarks(&d, n)
		all(t, planted(t, ms), ms, around(n))
		for i := range ms {
			ms[i].Op.Insert = d.roll(2) == 0
		}
		lows(t, planted(t, ms), ms)
	}
}

func TestEdgesOfTimes(t *testing.T) {
	edges := []int{math.MinInt, math.MinInt + 1, -1, 0, 1, math.MaxInt - 1, math.MaxInt}
	for _, letters := range words(len(edges), "id") {
		ms := marks(letters)
		for i := range ms {
			ms[i].Op.Time = edges[i]
		}
		all(t, planted(t, ms), ms, edges)
		for i := range ms {
			ms[i].Op.Time = edges[len(edges)-len(ms)+i]
		}
		all(t, planted(t, ms), ms, edges)
	}
}

func TestEdgesOfPlaces(t *testing.T) {
	far := []int{math.MinInt, math.MinInt + 1, -1 << 62, -1, 0, 1, 2, 3, 1 << 62, math.MaxInt - 1, math.MaxInt}
	for _, letters := range words(5, "id") {
		ms := marks(letters)
		w := planted(t, ms)
		for _, from := range far {
			for _, to := range far {
				if got, want := Low(w, from, to), plainLow(ms, from, to); got != want {
					t.Fatalf("P11.1: %q: Low from %d up to %d: %d; want %d", letters, from, to, got, want)
				}
			}
		}
	}
}

// TestEveryCallEnds of illegal trees, of which nothing else is promised, and of none, which is as one without marks.
func TestEveryCallEnds(t *testing.T) {
	times := []int{math.MinInt, -1, 0, 5, 10, 15, math.MaxInt}
	for _, letters := range words(4, "id") {
		w := planted(t, marks(letters))
		for _, time := range times {
			MayDelete(w, time)
			MayRevoke(w, time)
			for _, to := range times {
				MayMove(w, time, to)
			}
		}
	}
	all(t, nil, nil, times)
}

func TestWhatWasPartedHasPlacesOfItsOwn(t *testing.T) {
	d := dice(12)
	for range 20 {
		ms := legalMarks(&d, 12)
		for i := range len(ms) + 1 {
			w := planted(t, ms)
			rest := w.Split(wave.Key(10 * i))
			all(t, w, ms[:i], around(len(ms)))
			all(t, rest, ms[i:], around(len(ms)))
			if !w.Join(rest) {
				t.Fatalf("parted at %d, both don't join", i)
			}
			all(t, rest, nil, around(1))
			all(t, w, ms, around(len(ms)))
		}
	}
}

// TestWhileTheTreeChanges makes each edit that may be, and no other one: so the tree stays legal.
func TestWhileTheTreeChanges(t *testing.T) {
	d := dice(13)
	for range 10 {
		w := wave.New(60)
		var ms []wave.Mark
		for range 80 {
			time, to := d.roll(60)-30, d.roll(60)-30
			i, is := placed(ms, time)
			switch d.roll(4) {
			case 0:
				if !is {
					m := wave.Mark{Op: api.Op{Time: time, Insert: true}}
					w.Put(m)
					ms = with(ms, m)
				}
			case 1:
				if MayDelete(w, time) {
					w.Put(wave.Key(time))
					ms = with(ms, wave.Key(time))
				}
			case 2:
				if MayRevoke(w, time) {
					w.Drop(wave.Key(time))
					ms = without(ms, time)
				}
			case 3:
				if MayMove(w, time, to) {
					m := ms[i]
					w.Drop(m)
					m.Op.Time = to
					w.Put(m)
					ms = with(without(ms, time), m)
				}
			}
			if !Right(w) {
				t.Fatalf("P11.2: %v: an edit that may be made it illegal", ms)
			}
			all(t, w, ms, []int{time, to, -31, 0, 31})
		}
	}
}

func TestTheTreeStaysAsItIs(t *testing.T) {
	d := dice(14)
	for n := range 40 {
		ms := legalMarks(&d, n)
		w := planted(t, ms)
		height := w.Height()
		Right(w)
		for _, time := range around(n) {
			Low(w, time, n)
			MayDelete(w, time)
			MayRevoke(w, time)
			MayMove(w, time, 10*n-time)
		}
		if w.Len() != n || w.Height() != height || !slices.Equal(w.All(), ms) {
			t.Fatalf("P11.3: %v are %v after all calls", ms, w.All())
		}
		for i, m := range ms {
			if got, ok := w.At(i); !ok || got != m {
				t.Fatalf("P11.3: the mark at %d is %v; it was %v", i, got, m)
			}
		}
		if _, ok := w.Find(wave.Key(10 * n)); ok || w.Put(wave.Key(10*n)) {
			t.Fatalf("P11.3: of %d marks, the pool has room again, or one is there that wasn't put in", n)
		}
	}
}

// TestGreatTrees are asked often enough that going from mark to mark would take long.
func TestGreatTrees(t *testing.T) {
	const n = 65536
	d := dice(15)
	ms := legalMarks(&d, n)
	cs := counts(ms)
	// A count behind each place is the least one from there on to the end.
	lows := slices.Clone(cs)
	for p := n - 1; p >= 0; p-- {
		lows[p] = min(lows[p], lows[p+1])
	}
	w := planted(t, ms)
	if !Right(w) {
		t.Fatal("P11.1: Right of a run")
	}
	for range 50000 {
		p := d.roll(n)
		if got := Low(w, p, n); got != lows[p] {
			t.Fatalf("P11.1: Low from %d on: %d; want %d", p, got, lows[p])
		}
		if got, want := MayDelete(w, 10*p-5), lows[p] > 0; got != want {
			t.Fatalf("P11.2: MayDelete ahead of mark %d: %v; want %v", p, got, want)
		}
		if got, want := MayRevoke(w, 10*p), !ms[p].Op.Insert || lows[p+1] > 0; got != want {
			t.Fatalf("P11.2: MayRevoke of mark %d: %v; want %v", p, got, want)
		}
	}
	for range 300 {
		p, q := d.roll(n), d.roll(n+1)
		want := true
		if ms[p].Op.Insert && q > p {
			want = slices.Min(cs[p+1:q+1]) > 0
		}
		if !ms[p].Op.Insert && q < p {
			want = slices.Min(cs[q:p+1]) > 0
		}
		if got := MayMove(w, 10*p, 10*q-5); got != want {
			t.Fatalf("P11.2: MayMove of mark %d ahead of mark %d: %v; want %v", p, q, got, want)
		}
	}
}
