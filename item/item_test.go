package item

import (
	"fmt"
	"math"
	"math/big"
	"regexp"
	"slices"
	"strings"
	"testing"

	"whilom/api"
)

// edges are the numbers at which a difference ceases to fit or a text grows longer, and those near them.
func edges() []int {
	var list []int
	for n := -3; n <= 3; n++ {
		list = append(list, n)
	}
	for _, n := range []int{9, 10, 11, 99, 100, 101, 1 << 31, 1 << 32, 1 << 53, 1 << 62, 1e18, 1e18 - 1} {
		list = append(list, n, -n)
	}
	for n := 0; n <= 2; n++ {
		list = append(list, math.MinInt+n, math.MaxInt-n)
	}
	return list
}

// items are those of all pairs of edges.
func items() []api.Item {
	var list []api.Item
	for _, key := range edges() {
		for _, id := range edges() {
			list = append(list, api.Item{Key: key, ID: id})
		}
	}
	return list
}

// shuffled are the same items in another order, the same one at each run.
func shuffled(l []api.Item) []api.Item {
	list := slices.Clone(l)
	state := uint64(88172645463325252)
	for i := range list {
		state ^= state << 13
		state ^= state >> 7
		state ^= state << 17
		j := int(state % uint64(i+1))
		list[i], list[j] = list[j], list[i]
	}
	return list
}

// order is how two items stand, by numbers of any size.
func order(a, b api.Item) int {
	if c := big.NewInt(int64(a.Key)).Cmp(big.NewInt(int64(b.Key))); c != 0 {
		return c
	}
	return big.NewInt(int64(a.ID)).Cmp(big.NewInt(int64(b.ID)))
}

// counts tells how often each item is there.
func counts(l []api.Item) map[api.Item]int {
	m := map[api.Item]int{}
	for _, x := range l {
		m[x]++
	}
	return m
}

func sameCounts(a, b map[api.Item]int) bool {
	if len(a) != len(b) {
		return false
	}
	for x, n := range a {
		if b[x] != n {
			return false
		}
	}
	return true
}

func TestCompareByHand(t *testing.T) {
	for _, r := range []struct {
		a, b api.Item
		want int
	}{
		{api.Item{}, api.Item{}, 0},
		{api.Item{Key: 1, ID: 2}, api.Item{Key: 1, ID: 2}, 0},
		{api.Item{Key: 1, ID: 9}, api.Item{Key: 2, ID: 0}, -1},
		{api.Item{Key: 9, ID: 1}, api.Item{Key: 10, ID: 0}, -1}, // by number, not by text
		{api.Item{Key: -10, ID: 0}, api.Item{Key: -9, ID: 0}, -1},
		{api.Item{Key: -1, ID: 5}, api.Item{Key: 0, ID: 0}, -1},
		{api.Item{Key: 3, ID: 4}, api.Item{Key: 3, ID: 5}, -1},
		{api.Item{Key: 3, ID: -1}, api.Item{Key: 3, ID: 0}, -1},
		{api.Item{Key: 3, ID: 9}, api.Item{Key: 3, ID: 10}, -1},
		{api.Item{Key: math.MinInt, ID: 0}, api.Item{Key: math.MaxInt, ID: 0}, -1},
		{api.Item{Key: math.MinInt, ID: 0}, api.Item{Key: 1, ID: 0}, -1},
		{api.Item{Key: -2, ID: 0}, api.Item{Key: math.MaxInt, ID: 0}, -1},
		{api.Item{Key: 0, ID: math.MinInt}, api.Item{Key: 0, ID: math.MaxInt}, -1},
		{api.Item{Key: 0, ID: math.MinInt}, api.Item{Key: 0, ID: 1}, -1},
		{api.Item{Key: math.MaxInt, ID: math.MinInt}, api.Item{Key: math.MaxInt, ID: math.MaxInt}, -1},
	} {
		if got := Compare(r.a, r.b); got != r.want {
			t.Errorf("P2.1: Compare(%v, %v): %d; want %d", r.a, r.b, got, r.want)
		}
		if got := Compare(r.b, r.a); got != -r.want {
			t.Errorf("P2.1: Compare(%v, %v): %d; want %d", r.b, r.a, got, -r.want)
		}
	}
}

func TestCompareOfAllEdges(t *testing.T) {
	for _, a := range items() {
		for _, b := range items() {
			if got, want := Compare(a, b), order(a, b); got != want {
				t.Fatalf("P2.1: Compare(%v, %v): %d; want %d", a, b, got, want)
			}
		}
	}
}

func TestLeastAndMostByHand(t *testing.T) {
	a, b, c, d := api.Item{Key: -5, ID: 7}, api.Item{Key: 2, ID: 1}, api.Item{Key: 2, ID: 3}, api.Item{Key: 10, ID: 0}
	low, high := api.Item{Key: math.MinInt, ID: math.MinInt}, api.Item{Key: math.MaxInt, ID: math.MaxInt}
	for _, r := range []struct {
		list        []api.Item
		least, most api.Item
		ok          bool
	}{
		{nil, api.Item{}, api.Item{}, false},
		{[]api.Item{}, api.Item{}, api.Item{}, false},
		{[]api.Item{b, c}[:0], api.Item{}, api.Item{}, false}, // what lies in spare room isn't there
		{[]api.Item{d, b, a}[:2], b, d, true},
		{[]api.Item{a}, a, a, true},
		{[]api.Item{d}, d, d, true},
		{[]api.Item{{}}, api.Item{}, api.Item{}, true},
		{[]api.Item{b, b, b}, b, b, true},
		{[]api.Item{b, c}, b, c, true}, {[]api.Item{c, b}, b, c, true},
		{[]api.Item{a, b, c, d}, a, d, true}, {[]api.Item{d, c, b, a}, a, d, true}, {[]api.Item{c, a, d, b}, a, d, true},
		{[]api.Item{b, d}, b, d, true},
		{[]api.Item{a, {}}, a, api.Item{}, true},
		{[]api.Item{high, a, low}, low, high, true}, {[]api.Item{low, high}, low, high, true},
	} {
		if x, ok := Least(r.list...); x != r.least || ok != r.ok {
			t.Errorf("P2.1: Least(%v): %v, %v; want %v, %v", r.list, x, ok, r.least, r.ok)
		}
		if x, ok := Most(r.list...); x != r.most || ok != r.ok {
			t.Errorf("P2.1: Most(%v): %v, %v; want %v, %v", r.list, x, ok, r.most, r.ok)
		}
	}
	if x, ok := Least(); ok || x != (api.Item{}) {
		t.Errorf("P2.1: Least(): %v, %v", x, ok)
	}
	if x, ok := Most(); ok || x != (api.Item{}) {
		t.Errorf("P2.1: Most(): %v, %v", x, ok)
	}
	if x, ok := Least(c, b); !ok || x != b {
		t.Errorf("P2.1: Least of two: %v, %v", x, ok)
	}
}

func TestLeastAndMostOfAllEdges(t *testing.T) {
	list := shuffled(items())
	for from := range list {
		part := list[from:min(from+1+from%9, len(list))]
		least, ok := Least(part...)
		most, fits := Most(part...)
		if !ok || !fits || !slices.Contains(part, least) || !slices.Contains(part, most) {
			t.Fatalf("P2.1: of %v: %v, %v and %v, %v", part, least, ok, most, fits)
		}
		for _, x := range part {
			if order(x, least) < 0 || order(x, most) > 0 {
				t.Fatalf("P2.1: of %v: least %v and most %v", part, least, most)
			}
		}
	}
}

func TestSortedByHand(t *testing.T) {
	a, b, c, d := api.Item{Key: -5, ID: 7}, api.Item{Key: 2, ID: 1}, api.Item{Key: 2, ID: 3}, api.Item{Key: 10, ID: 0}
	for _, r := range []struct{ list, want []api.Item }{
		{nil, nil}, {[]api.Item{}, nil}, {[]api.Item{b, a}[:0], nil},
		{[]api.Item{b}, []api.Item{b}},
		{[]api.Item{d, c, b, a}, []api.Item{a, b, c, d}},
		{[]api.Item{a, b, c, d}, []api.Item{a, b, c, d}},
		{[]api.Item{c, b, c, a, b}, []api.Item{a, b, b, c, c}}, // all of them, the alike ones too
		{[]api.Item{b, b}, []api.Item{b, b}}, {[]api.Item{c, c, a}, []api.Item{a, c, c}}, {[]api.Item{d, {}, {}}, []api.Item{{}, {}, d}},
		{[]api.Item{d, b, a}[:2], []api.Item{b, d}},
	} {
		if got := Sorted(r.list); !slices.Equal(got, r.want) {
			t.Errorf("P2.1: Sorted(%v): %v; want %v", r.list, got, r.want)
		}
	}
}

func TestSortedOfAllEdges(t *testing.T) {
	list := shuffled(append(items(), items()[:100]...))
	for _, n := range []int{0, 1, 2, 3, 12, 13, 50, 500, len(list)} {
		part := list[:n]
		got := Sorted(part)
		if !sameCounts(counts(got), counts(part)) {
			t.Errorf("P2.1: Sorted of %d items: others, or %d of them", n, len(got))
		}
		for i := 1; i < len(got); i++ {
			if order(got[i-1], got[i]) > 0 {
				t.Fatalf("P2.1: Sorted of %d items: %v ahead of %v", n, got[i-1], got[i])
			}
		}
	}
}

func TestTextByHand(t *testing.T) {
	for _, r := range []struct {
		x    api.Item
		want string
	}{
		{api.Item{}, "0#0"},
		{api.Item{Key: -5, ID: 2}, "-5#2"},
		{api.Item{Key: 5, ID: -2}, "5#-2"},
		{api.Item{Key: -1, ID: -1}, "-1#-1"},
		{api.Item{Key: 10, ID: 100}, "10#100"},
		{api.Item{Key: 1234567890, ID: 0}, "1234567890#0"},
		{api.Item{Key: math.MaxInt, ID: math.MinInt}, "9223372036854775807#-9223372036854775808"},
		{api.Item{Key: math.MinInt, ID: math.MaxInt}, "-9223372036854775808#9223372036854775807"},
	} {
		if got := Text(r.x); got != r.want {
			t.Errorf("P2.2: Text(%v): %q; want %q", r.x, got, r.want)
		}
		if x, ok := Read(r.want); !ok || x != r.x {
			t.Errorf("P2.2: Read(%q): %v, %v; want %v", r.want, x, ok, r.x)
		}
	}
}

func TestTextOfAllEdges(t *testing.T) {
	for _, x := range items() {
		if got, want := Text(x), fmt.Sprintf("%d#%d", x.Key, x.ID); got != want {
			t.Errorf("P2.2: Text(%v): %q; want %q", x, got, want)
		}
	}
}

// wrongNumbers are texts that aren't any number's.
func wrongNumbers() []string {
	return []string{
		"", "-", "+", "--1", "+-1", "-+1", "+1", "+0", "-0", "00", "01", "-01", "007", "-00", "1-", "1-1",
		" 1", "1 ", "\t1", "1\n", "1\r", "1\x00", "\x001", "- 1", "1 0", "1_0", "1,0", "1.0", ".5", "1e1", "0x1", "0b1", "0o7", "1f", "a", "NaN", "Inf",
		"9223372036854775808", "-9223372036854775809", "18446744073709551615", "18446744073709551616", "18446744073709551621", "100000000000000000000", "-100000000000000000000",
		"\u0661", "\uff11", "\u22125", "\u00bd", "\xff", "1\xff", "\ufeff1",
		strings.Repeat("9", 100), "-" + strings.Repeat("9", 100), strings.Repeat("0", 100), strings.Repeat("0", 30) + "1", strings.Repeat("1", 1<<16),
	}
}

func TestReadOfWrongTexts(t *testing.T) {
	list := []string{"", "#", "##", "1", "-5", "1:1", "1.1", "1#1#1", "1##1", "#1#1", "1#1#", "##1", "#1", "1#", "1 1", "1\uff031", strings.Repeat("#", 1<<16)}
	for _, s := range wrongNumbers() {
		list = append(list, s, s+"#1", "1#"+s, s+"#"+s)
	}
	for _, s := range list {
		if x, ok := Read(s); ok || x != (api.Item{}) {
			t.Errorf("P2.2: Read(%.60q): %v, %v; want none", s, x, ok)
		}
	}
}

// TestReadOfAllShortTexts holds Read against the shape of a text, over all texts of some octets.
func TestReadOfAllShortTexts(t *testing.T) {
	const octets = "019-+# "
	shape := regexp.MustCompile(`\A(0|-?[1-9][0-9]*)#(0|-?[1-9][0-9]*)\z`)
	texts := []string{""}
	for from, length := 0, 0; length < 6; length++ {
		to := len(texts)
		for ; from < to; from++ {
			for _, c := range octets {
				texts = append(texts, texts[from]+string(c))
			}
		}
	}
	for _, s := range texts {
		want := api.Item{}
		fits := shape.MatchString(s)
		if fits {
			fmt.Sscanf(s, "%d#%d", &want.Key, &want.ID)
		}
		if x, ok := Read(s); ok != fits || x != want {
			t.Fatalf("P2.2: Read(%q): %v, %v; want %v, %v", s, x, ok, want, fits)
		}
	}
}

func TestThereAndBack(t *testing.T) {
	seen := map[string]bool{}
	for _, x := range items() {
		s := Text(x)
		if back, ok := Read(s); !ok || back != x {
			t.Errorf("P2.3: Read(%q): %v, %v; want %v", s, back, ok, x)
		}
		seen[s] = true
	}
	if len(seen) != len(counts(items())) {
		t.Errorf("P2.3: %d texts of %d items", len(seen), len(counts(items())))
	}
	for s := range seen {
		if x, _ := Read(s); Text(x) != s {
			t.Errorf("P2.3: Text of what %q is: %q", s, Text(x))
		}
	}
}

func TestHandedInIsNeitherChangedNorKept(t *testing.T) {
	room := append(shuffled(items()), api.Item{Key: 1, ID: 1}, api.Item{Key: -1, ID: -1})
	before := slices.Clone(room)
	for _, n := range []int{0, 1, 2, 12, 13, 40, len(room) - 2} {
		list := room[:n]
		Least(list...)
		Most(list...)
		one := Sorted(list)
		if !slices.Equal(room, before) {
			t.Fatalf("P2.3: of %d items, what was handed in was changed", n)
		}
		want := slices.Clone(one)
		two := Sorted(list)
		// Into the answer and into its spare room: neither may be the list's, nor the other answer's.
		one = one[:cap(one)]
		for i := range one {
			one[i] = api.Item{Key: 77, ID: i}
		}
		if !slices.Equal(room, before) {
			t.Fatalf("P2.3: of %d items, an answer shares what was handed in", n)
		}
		if !slices.Equal(two, want) {
			t.Fatalf("P2.3: of %d items, two answers share", n)
		}
		for i := range list {
			list[i] = api.Item{Key: 88, ID: i}
		}
		if !slices.Equal(two, want) {
			t.Fatalf("P2.3: of %d items, an answer follows what was handed in", n)
		}
		copy(room, before)
		if three := Sorted(list); !slices.Equal(three, want) {
			t.Fatalf("P2.3: of %d items, an answer hangs on an earlier call", n)
		}
	}
}

// TestSortedOfSortedIsNew holds an answer apart from a list that is in order already.
func TestSortedOfSortedIsNew(t *testing.T) {
	list := []api.Item{{Key: 1, ID: 0}, {Key: 1, ID: 1}, {Key: 4, ID: 0}}
	got := Sorted(list)
	got[0] = api.Item{Key: 9, ID: 9}
	if want := (api.Item{Key: 1, ID: 0}); list[0] != want {
		t.Errorf("P2.3: the list's first item became %v", list[0])
	}
}
