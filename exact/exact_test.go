package exact

import (
	"math"
	"math/big"
	"testing"
)

// edges are the numbers at which results begin or cease to fit, and those near them.
func edges() []int {
	const root = 3037000499 // the greatest number whose square fits
	list := []int{root, root + 1, -root, -root - 1, math.MaxInt / 3, math.MinInt / 3}
	for n := -9; n <= 9; n++ {
		list = append(list, n)
	}
	for n := 0; n <= 3; n++ {
		list = append(list, math.MinInt+n, math.MaxInt-n)
	}
	for _, shift := range []int{30, 31, 32, 33, 61, 62} {
		for n := -2; n <= 2; n++ {
			list = append(list, 1<<shift+n, -1<<shift+n)
		}
	}
	return list
}

// spread are numbers of all lengths, the same ones at each run.
func spread(count int) []int {
	list := make([]int, count)
	state := uint64(88172645463325252)
	for i := range list {
		state ^= state << 13
		state ^= state >> 7
		state ^= state << 17
		list[i] = int(state) >> (i % 64)
	}
	return list
}

// pairs are all pairs of edges, and pairs of spread numbers with each other and with edges.
func pairs() [][2]int {
	var list [][2]int
	near, far := edges(), spread(4096)
	for _, a := range near {
		for _, b := range near {
			list = append(list, [2]int{a, b})
		}
	}
	for i, a := range far {
		b := far[(i*31+7)%len(far)]
		list = append(list, [2]int{a, b}, [2]int{a, near[i%len(near)]}, [2]int{near[i%len(near)], a})
	}
	return list
}

// numbers are all edges, and spread numbers.
func numbers() []int {
	return append(edges(), spread(4096)...)
}

// fitting is a number of any size as the calls answer it.
func fitting(n *big.Int) (int, bool) {
	if !n.IsInt64() {
		return 0, false
	}
	return int(n.Int64()), true
}

func whole(n int) *big.Int { return big.NewInt(int64(n)) }

// operation is one of the three calls of P1.1, and what it is for numbers of any size.
type operation struct {
	name  string
	call  func(a, b int) (int, bool)
	model func(a, b *big.Int) *big.Int
}

func operations() []operation {
	return []operation{
		{"Add", Add, func(a, b *big.Int) *big.Int { return new(big.Int).Add(a, b) }},
		{"Sub", Sub, func(a, b *big.Int) *big.Int { return new(big.Int).Sub(a, b) }},
		{"Mul", Mul, func(a, b *big.Int) *big.Int { return new(big.Int).Mul(a, b) }},
	}
}

// row is a pair of numbers and what a call is to answer.
type row struct {
	a, b, want int
	ok         bool
}

func check(t *testing.T, promise, name string, call func(a, b int) (int, bool), rows []row) {
	t.Helper()
	for _, r := range rows {
		if got, ok := call(r.a, r.b); got != r.want || ok != r.ok {
			t.Errorf("%s: %s(%d, %d): %d, %v; want %d, %v", promise, name, r.a, r.b, got, ok, r.want, r.ok)
		}
	}
}

func TestAddSubMulByHand(t *testing.T) {
	check(t, "P1.1", "Add", Add, []row{
		{2, 3, 5, true}, {-2, -3, -5, true}, {7, -7, 0, true}, {0, 0, 0, true},
		{1 << 62, 1 << 62, 0, false},
		{1 << 62, 1<<62 - 1, math.MaxInt, true},
		{-1 << 62, -1 << 62, math.MinInt, true},
		{-1 << 62, -1<<62 - 1, 0, false},
		{math.MaxInt, 0, math.MaxInt, true}, {math.MaxInt, 1, 0, false}, {math.MaxInt, math.MaxInt, 0, false},
		{math.MinInt, 0, math.MinInt, true}, {math.MinInt, -1, 0, false}, {math.MinInt, math.MinInt, 0, false},
		{math.MinInt, math.MaxInt, -1, true},
	})
	check(t, "P1.1", "Sub", Sub, []row{
		{5, 3, 2, true}, {3, 5, -2, true}, {-4, -4, 0, true}, {0, 0, 0, true},
		{0, math.MaxInt, -math.MaxInt, true}, {0, math.MinInt, 0, false}, {-1, math.MinInt, math.MaxInt, true},
		{math.MinInt, 1, 0, false}, {math.MinInt, -1, math.MinInt + 1, true}, {math.MaxInt, -1, 0, false},
		{-2, math.MaxInt, 0, false}, {-1, math.MaxInt, math.MinInt, true},
		{math.MinInt, math.MinInt, 0, true}, {math.MaxInt, math.MaxInt, 0, true},
		{math.MaxInt, math.MinInt, 0, false}, {math.MinInt, math.MaxInt, 0, false},
	})
	check(t, "P1.1", "Mul", Mul, []row{
		{6, 7, 42, true}, {-6, 7, -42, true}, {-6, -7, 42, true}, {0, 0, 0, true},
		{0, math.MinInt, 0, true}, {math.MinInt, 0, 0, true}, {math.MaxInt, 0, 0, true},
		{1, math.MinInt, math.MinInt, true}, {math.MinInt, 1, math.MinInt, true},
		{-1, math.MinInt, 0, false}, {math.MinInt, -1, 0, false}, {math.MaxInt, -1, -math.MaxInt, true},
		{1 << 31, 1 << 32, 0, false}, {-1 << 31, 1 << 32, math.MinInt, true}, {1 << 31, -1 << 32, math.MinInt, true},
		{1 << 32, 1 << 32, 0, false}, {1 << 62, 2, 0, false}, {1 << 62, -2, math.MinInt, true}, {1 << 62, 4, 0, false},
		{3037000499, 3037000499, 9223372030926249001, true}, {3037000500, 3037000500, 0, false},
		{math.MinInt, math.MinInt, 0, false}, {math.MaxInt, math.MaxInt, 0, false}, {math.MinInt, math.MaxInt, 0, false},
	})
}

func TestAddSubMulOfAllSizes(t *testing.T) {
	for _, op := range operations() {
		for _, p := range pairs() {
			want, fits := fitting(op.model(whole(p[0]), whole(p[1])))
			if got, ok := op.call(p[0], p[1]); got != want || ok != fits {
				t.Errorf("P1.1: %s(%d, %d): %d, %v; want %d, %v", op.name, p[0], p[1], got, ok, want, fits)
			}
		}
	}
}

func TestMidByHand(t *testing.T) {
	for _, r := range [][3]int{
		{0, 0, 0}, {2, 4, 3}, {5, 8, 6}, {8, 5, 6}, {0, 1, 0}, {0, -1, -1}, {-1, 1, 0},
		{-3, 0, -2}, {0, -3, -2}, {-5, -8, -7}, {-2, -4, -3}, {-7, 4, -2}, {7, -4, 1},
		{math.MaxInt, math.MaxInt, math.MaxInt}, {math.MaxInt, math.MaxInt - 1, math.MaxInt - 1},
		{math.MinInt, math.MinInt, math.MinInt}, {math.MinInt, math.MinInt + 1, math.MinInt},
		{math.MinInt, math.MaxInt, -1}, {math.MaxInt, math.MinInt, -1},
		{math.MaxInt, 1, 1 << 62}, {math.MinInt, -1, -1<<62 - 1},
	} {
		if got := Mid(r[0], r[1]); got != r[2] {
			t.Errorf("P1.2: Mid(%d, %d): %d; want %d", r[0], r[1], got, r[2])
		}
	}
}

func TestMidOfAllSizes(t *testing.T) {
	for _, p := range pairs() {
		sum := new(big.Int).Add(whole(p[0]), whole(p[1]))
		want, _ := fitting(sum.Rsh(sum, 1)) // a shift of big.Int rounds down
		if got := Mid(p[0], p[1]); got != want {
			t.Errorf("P1.2: Mid(%d, %d): %d; want %d", p[0], p[1], got, want)
		}
	}
}

func TestNextPriorByHand(t *testing.T) {
	// The second number of these rows isn't used.
	next := func(n, _ int) (int, bool) { return Next(n) }
	check(t, "P1.2", "Next", next, []row{
		{0, 0, 1, true}, {-1, 0, 0, true}, {41, 0, 42, true}, {-42, 0, -41, true},
		{math.MaxInt - 1, 0, math.MaxInt, true}, {math.MaxInt, 0, 0, false}, {math.MinInt, 0, math.MinInt + 1, true},
	})
	prior := func(n, _ int) (int, bool) { return Prior(n) }
	check(t, "P1.2", "Prior", prior, []row{
		{0, 0, -1, true}, {1, 0, 0, true}, {43, 0, 42, true}, {-40, 0, -41, true},
		{math.MinInt + 1, 0, math.MinInt, true}, {math.MinInt, 0, 0, false}, {math.MaxInt, 0, math.MaxInt - 1, true},
	})
}

func TestNextPriorOfAllSizes(t *testing.T) {
	one := whole(1)
	for _, n := range numbers() {
		want, fits := fitting(new(big.Int).Add(whole(n), one))
		if got, ok := Next(n); got != want || ok != fits {
			t.Errorf("P1.2: Next(%d): %d, %v; want %d, %v", n, got, ok, want, fits)
		}
		want, fits = fitting(new(big.Int).Sub(whole(n), one))
		if got, ok := Prior(n); got != want || ok != fits {
			t.Errorf("P1.2: Prior(%d): %d, %v; want %d, %v", n, got, ok, want, fits)
		}
	}
}

func TestThereAndBack(t *testing.T) {
	for _, p := range pairs() {
		a, b := p[0], p[1]
		if sum, ok := Add(a, b); ok {
			if back, fits := Sub(sum, b); back != a || !fits {
				t.Errorf("P1.3: Sub(%d, %d): %d, %v; want %d", sum, b, back, fits, a)
			}
		}
		if rest, ok := Sub(a, b); ok {
			if back, fits := Add(rest, b); back != a || !fits {
				t.Errorf("P1.3: Add(%d, %d): %d, %v; want %d", rest, b, back, fits, a)
			}
		}
		if product, ok := Mul(a, b); ok && b != 0 && (product/b != a || product%b != 0) {
			t.Errorf("P1.3: Mul(%d, %d): %d, which isn't divided back", a, b, product)
		}
	}
	for _, n := range numbers() {
		if more, ok := Next(n); ok {
			if back, fits := Prior(more); back != n || !fits {
				t.Errorf("P1.3: Prior(%d): %d, %v; want %d", more, back, fits, n)
			}
		}
		if less, ok := Prior(n); ok {
			if back, fits := Next(less); back != n || !fits {
				t.Errorf("P1.3: Next(%d): %d, %v; want %d", less, back, fits, n)
			}
		}
	}
}

func TestOrderOfTwo(t *testing.T) {
	for _, p := range pairs() {
		a, b := p[0], p[1]
		for _, op := range operations() {
			if op.name == "Sub" {
				continue
			}
			one, fits := op.call(a, b)
			if other, ok := op.call(b, a); one != other || fits != ok {
				t.Errorf("P1.3: %s of %d and %d: %d, %v; the other way round %d, %v", op.name, a, b, one, fits, other, ok)
			}
		}
		if one, other := Mid(a, b), Mid(b, a); one != other {
			t.Errorf("P1.3: Mid of %d and %d: %d; the other way round %d", a, b, one, other)
		}
	}
}
