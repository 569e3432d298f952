package tide

import (
	"math"
	"math/big"
	"slices"
	"testing"
)

// edges are the numbers near 0 and those at which sums wrap.
func edges() []int {
	return []int{-2, -1, 0, 1, 2, math.MinInt, math.MinInt + 1, -1 << 62, 1 << 62, math.MaxInt - 1, math.MaxInt}
}

// tides are those of all edges as N, Sum and Low: most of them are no numbers' tides.
func tides() []Tide {
	var list []Tide
	for _, n := range []int{-1, 0, 1, 3, math.MinInt, math.MaxInt} {
		for _, sum := range edges() {
			for _, low := range edges() {
				list = append(list, Tide{N: n, Sum: sum, Low: low})
			}
		}
	}
	return list
}

// shortLists are all lists of at most so many of the numbers.
func shortLists(length int, numbers []int) [][]int {
	lists := [][]int{nil}
	for from := 0; length > 0; length-- {
		to := len(lists)
		for ; from < to; from++ {
			for _, n := range numbers {
				lists = append(lists, append(slices.Clone(lists[from]), n))
			}
		}
	}
	return lists
}

// spread are numbers of at most so many bits, the same ones at each run.
func spread(count, bits int) []int {
	list := make([]int, count)
	state := uint64(88172645463325252)
	for i := range list {
		state ^= state << 13
		state ^= state >> 7
		state ^= state << 17
		list[i] = int(state) >> (64 - bits)
	}
	return list
}

// total is the sum of numbers of any size, wrapped to 64 bits in the end.
func total(ns ...int) int {
	sum := new(big.Int)
	for _, n := range ns {
		sum.Add(sum, big.NewInt(int64(n)))
	}
	return int(sum.Mod(sum, new(big.Int).Lsh(big.NewInt(1), 64)).Uint64())
}

// plain is the tide of numbers as the chapter's words tell it: each sum of the first ones is made from nothing.
func plain(ns []int) Tide {
	if len(ns) == 0 {
		return Tide{}
	}
	var sums []int
	for k := range ns {
		sums = append(sums, total(ns[:k+1]...))
	}
	return Tide{N: len(ns), Sum: sums[len(sums)-1], Low: slices.Min(sums)}
}

func TestOfByHand(t *testing.T) {
	for _, r := range []struct {
		ns   []int
		want Tide
	}{
		{nil, Tide{}}, {[]int{}, Tide{}},
		{[]int{-7, -8}[:0], Tide{}}, {[]int{4, -9}[:1], Tide{1, 4, 4}}, // what lies in spare room isn't there
		{[]int{0}, Tide{1, 0, 0}}, {[]int{5}, Tide{1, 5, 5}}, {[]int{-5}, Tide{1, -5, -5}},
		{[]int{0, 0, 0}, Tide{3, 0, 0}},
		{[]int{1, -2, 3}, Tide{3, 2, -1}},
		{[]int{-1, 2}, Tide{2, 1, -1}}, {[]int{2, -1}, Tide{2, 1, 1}}, {[]int{5, -5}, Tide{2, 0, 0}},
		{[]int{2, 3, 4}, Tide{3, 9, 2}}, // the sum of none is none of the sums
		{[]int{-1, -1, -1}, Tide{3, -3, -3}},
		{[]int{1, 1, -1, -1}, Tide{4, 0, 0}}, {[]int{-1, -1, 1, 1}, Tide{4, 0, -2}}, {[]int{1, -1, -1, 1}, Tide{4, 0, -1}},
		{[]int{3, -9, 9, -4}, Tide{4, -1, -6}},
		{[]int{math.MaxInt}, Tide{1, math.MaxInt, math.MaxInt}}, {[]int{math.MinInt}, Tide{1, math.MinInt, math.MinInt}},
		// Sums wrap, and each is held against the others as it is then.
		{[]int{math.MaxInt, 1}, Tide{2, math.MinInt, math.MinInt}},
		{[]int{math.MinInt, -1}, Tide{2, math.MaxInt, math.MinInt}},
		{[]int{math.MaxInt, 1, -5}, Tide{3, math.MaxInt - 4, math.MinInt}},
		{[]int{math.MaxInt, math.MaxInt}, Tide{2, -2, -2}}, {[]int{math.MinInt, math.MinInt}, Tide{2, 0, math.MinInt}},
		{[]int{1 << 62, 1 << 62, 1 << 62, 1 << 62}, Tide{4, 0, math.MinInt}},
	} {
		if got := Of(r.ns...); got != r.want {
			t.Errorf("P6.1: Of(%v): %v; want %v", r.ns, got, r.want)
		}
	}
	if got := Of(); got != (Tide{}) {
		t.Errorf("P6.1: Of(): %v", got)
	}
	if got, want := Of(4, -6), (Tide{2, -2, -2}); got != want {
		t.Errorf("P6.1: Of(4, -6): %v; want %v", got, want)
	}
}

func TestOfAllShortLists(t *testing.T) {
	for _, ns := range append(shortLists(4, edges()), shortLists(7, []int{-1, 0, 1})...) {
		if got, want := Of(ns...), plain(ns); got != want {
			t.Fatalf("P6.1: Of(%v): %v; want %v", ns, got, want)
		}
	}
}

func TestOfLongLists(t *testing.T) {
	for _, bits := range []int{2, 8, 40, 64} {
		if ns := spread(1000, bits); Of(ns...) != plain(ns) {
			t.Errorf("P6.1: Of %d numbers of %d bits: %v; want %v", len(ns), bits, Of(ns...), plain(ns))
		}
	}
	const many = 1 << 20
	down := slices.Repeat([]int{-1}, many)
	if got, want := Of(down...), (Tide{many, -many, -many}); got != want {
		t.Errorf("P6.1: Of many numbers: %v; want %v", got, want)
	}
	there := append(slices.Repeat([]int{1}, many), down...)
	if got, want := Of(there...), (Tide{2 * many, 0, 0}); got != want {
		t.Errorf("P6.1: Of many numbers up and down: %v; want %v", got, want)
	}
}

func TestPlusByHand(t *testing.T) {
	for _, r := range []struct{ t, u, want Tide }{
		{Tide{}, Tide{}, Tide{}},
		{Tide{}, Tide{2, 5, 3}, Tide{2, 5, 3}}, {Tide{2, 5, 3}, Tide{}, Tide{2, 5, 3}}, // Low above 0: that of none doesn't count
		{Tide{}, Tide{2, -5, -7}, Tide{2, -5, -7}}, {Tide{2, -5, -7}, Tide{}, Tide{2, -5, -7}},
		{Tide{1, 3, 3}, Tide{1, -5, -5}, Tide{2, -2, -2}}, {Tide{1, -5, -5}, Tide{1, 3, 3}, Tide{2, -2, -5}},
		{Tide{3, 2, -1}, Tide{1, -9, -9}, Tide{4, -7, -7}}, {Tide{3, 2, -1}, Tide{1, -2, -2}, Tide{4, 0, -1}},
		{Tide{3, 2, -1}, Tide{1, -3, -3}, Tide{4, -1, -1}}, // both Lows come to the same
		{Tide{2, 10, 4}, Tide{3, 1, 1}, Tide{5, 11, 4}}, {Tide{2, 10, 12}, Tide{3, 1, 1}, Tide{5, 11, 11}},
		// Tides that no numbers have: N alone tells that there are none, and t is asked first.
		{Tide{0, 7, -3}, Tide{1, 2, 2}, Tide{1, 2, 2}}, {Tide{1, 2, 2}, Tide{0, 7, -3}, Tide{1, 2, 2}},
		{Tide{0, 7, -3}, Tide{0, 1, -9}, Tide{0, 1, -9}}, {Tide{0, 7, -3}, Tide{}, Tide{}}, {Tide{}, Tide{0, 7, -3}, Tide{0, 7, -3}},
		{Tide{-1, 2, 2}, Tide{1, -3, -3}, Tide{0, -1, -1}}, {Tide{-4, 2, 2}, Tide{-1, 3, -3}, Tide{-5, 5, -1}},
		// All sums wrap.
		{Tide{math.MaxInt, 1, 1}, Tide{1, 1, 1}, Tide{math.MinInt, 2, 1}},
		{Tide{1, math.MaxInt, math.MaxInt}, Tide{1, 1, 1}, Tide{2, math.MinInt, math.MinInt}},
		{Tide{1, math.MinInt, math.MinInt}, Tide{1, -1, -1}, Tide{2, math.MaxInt, math.MinInt}},
		{Tide{1, -1, 5}, Tide{1, 0, math.MinInt}, Tide{2, -1, 5}},
	} {
		if got := r.t.Plus(r.u); got != r.want {
			t.Errorf("P6.1: %v.Plus(%v): %v; want %v", r.t, r.u, got, r.want)
		}
	}
}

// plainPlus is Plus as P6.1 tells it, with sums of any size that are wrapped in the end.
func plainPlus(t, u Tide) Tide {
	switch {
	case t.N == 0:
		return u
	case u.N == 0:
		return t
	}
	low := total(t.Sum, u.Low)
	if t.Low < low {
		low = t.Low
	}
	return Tide{N: total(t.N, u.N), Sum: total(t.Sum, u.Sum), Low: low}
}

func TestPlusOfAllEdges(t *testing.T) {
	list := tides()
	for _, a := range list {
		for _, b := range list {
			if got, want := a.Plus(b), plainPlus(a, b); got != want {
				t.Fatalf("P6.1: %v.Plus(%v): %v; want %v", a, b, got, want)
			}
		}
	}
}

func TestLeastByHand(t *testing.T) {
	for _, r := range []struct {
		t          Tide
		from, want int
	}{
		{Tide{3, 2, -1}, 4, 3}, {Tide{3, 2, -1}, 0, -1}, {Tide{3, 2, -1}, -4, -5},
		{Tide{1, 2, 2}, 4, 4}, {Tide{1, 2, 2}, -4, -4}, {Tide{2, 0, 0}, 4, 4}, // it never comes below from
		{Tide{2, -9, 3}, 4, 4}, // Low counts, not Sum
		{Tide{}, -7, -7}, {Tide{}, 0, 0}, {Tide{}, math.MinInt, math.MinInt}, {Tide{}, math.MaxInt, math.MaxInt},
		// Tides that no numbers have: N alone tells that there are none.
		{Tide{0, -3, -3}, 5, 5}, {Tide{-2, 0, -3}, 5, 2},
		// The sum wraps.
		{Tide{1, -1, -1}, math.MinInt, math.MinInt}, {Tide{1, 1, 1}, math.MaxInt, math.MinInt},
		{Tide{1, 0, math.MinInt}, math.MaxInt, -1}, {Tide{1, 0, math.MinInt}, -1, -1}, {Tide{1, 0, math.MinInt}, 0, math.MinInt},
	} {
		if got := r.t.Least(r.from); got != r.want {
			t.Errorf("P6.2: %v.Least(%d): %d; want %d", r.t, r.from, got, r.want)
		}
	}
}

func TestLeastOfAllEdges(t *testing.T) {
	for _, a := range tides() {
		for _, from := range edges() {
			want := from
			if low := total(from, a.Low); a.N != 0 && low < from {
				want = low
			}
			if got := a.Least(from); got != want {
				t.Fatalf("P6.2: %v.Least(%d): %d; want %d", a, from, got, want)
			}
		}
	}
}

// TestLeastOfWalks goes the numbers through from a height on, which is the first one that counts.
func TestLeastOfWalks(t *testing.T) {
	for _, ns := range shortLists(5, []int{-3, -1, 0, 1, 4}) {
		for from := -3; from <= 3; from++ {
			height, want := from, from
			for _, n := range ns {
				height += n
				want = min(want, height)
			}
			if got := Of(ns...).Least(from); got != want {
				t.Fatalf("P6.2: Of(%v).Least(%d): %d; want %d", ns, from, got, want)
			}
		}
	}
}

func TestParted(t *testing.T) {
	lists := append(shortLists(5, []int{-3, -1, 0, 1, 4}), spread(300, 2), spread(300, 9), spread(300, 50))
	for _, ns := range lists {
		whole := Of(ns...)
		for k := 0; k <= len(ns); k++ {
			if got := Of(ns[:k]...).Plus(Of(ns[k:]...)); got != whole {
				t.Fatalf("P6.3: %v parted at %d: %v; want %v", ns, k, got, whole)
			}
		}
	}
}

// TestOneMore parts lists ahead of their last number: there even sums that wrap come to the same.
func TestOneMore(t *testing.T) {
	for _, ns := range shortLists(4, edges()) {
		if len(ns) == 0 {
			continue
		}
		last := len(ns) - 1
		if got, want := Of(ns[:last]...).Plus(Of(ns[last])), Of(ns...); got != want {
			t.Fatalf("P6.3: %v parted at %d: %v; want %v", ns, last, got, want)
		}
	}
}

func TestThreeInWhicheverOrder(t *testing.T) {
	lists := append(shortLists(3, []int{-2, 0, 1}), spread(40, 3), spread(40, 40), []int{1 << 60, -1 << 61}, []int{-1 << 60, 1 << 61})
	for _, a := range lists {
		for _, b := range lists {
			for _, c := range lists {
				x, y, z := Of(a...), Of(b...), Of(c...)
				left, right := x.Plus(y).Plus(z), x.Plus(y.Plus(z))
				if want := Of(slices.Concat(a, b, c)...); left != want || right != want {
					t.Fatalf("P6.3: %v, %v, %v: %v or %v; want %v", a, b, c, left, right, want)
				}
			}
		}
	}
}

// TestHandedInIsNeitherChangedNorKept holds Of to the rule that what is handed in stays as it is, its spare room included.
func TestHandedInIsNeitherChangedNorKept(t *testing.T) {
	room := append(spread(50, 64), 77, 88)
	before := slices.Clone(room)
	for n := range room {
		list := room[:n]
		want := plain(list)
		got := Of(list...)
		if !slices.Equal(room, before) {
			t.Fatalf("P6.1: of %d numbers, what was handed in was changed", n)
		}
		for i := range list {
			list[i] = -5
		}
		Of(list...)
		copy(room, before)
		if again := Of(list...); got != want || again != want {
			t.Fatalf("P6.1: of %d numbers: %v, then %v; want %v", n, got, again, want)
		}
	}
}
