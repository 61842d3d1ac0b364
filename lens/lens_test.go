package lens_test

import (
	"math"
	"slices"
	"testing"

	"etui/api"
	"etui/huff"
	"etui/lens"
)

// farNumbers are no counts, no lengths, no limits, no Syms and no Extras.
var farNumbers = []int{-1, -2, -16, -320, -1 << 31, -1 << 40, math.MinInt, math.MinInt + 1, 1<<40 + 1, 1 << 41, 1 << 53, 1 << 62, math.MaxInt - 1, math.MaxInt}

// numbers are numbers in no order, the same ones each time.
type numbers struct{ x uint32 }

func (s *numbers) below(n int) int {
	s.x = s.x*1664525 + 1013904223
	return int(s.x>>8) % n
}

// counts: n counts, some of them 0, of very unlike greatness.
func (s *numbers) counts(n int) []int {
	counts := make([]int, n)
	most := 1 + s.below(24)
	for i := range counts {
		counts[i] = s.below(1<<s.below(most) + 1)
	}
	return counts
}

// lengths: n lengths in rows, many of them noughts.
func (s *numbers) lengths(n int) []int {
	var lengths []int
	for len(lengths) < n {
		x := max(0, s.below(22)-6)
		lengths = append(lengths, slices.Repeat([]int{x}, 1+s.below(1+s.below(200)))...)
	}
	return lengths[:n]
}

// sums: counts of which each one is the sum of the two ahead of it.
func sums(n int) []int {
	counts := []int{1, 1}
	for len(counts) < n {
		counts = append(counts, counts[len(counts)-1]+counts[len(counts)-2])
	}
	return counts
}

// powers: the powers of two from 1 on.
func powers(n int) []int {
	counts := make([]int, n)
	for i := range counts {
		counts[i] = 1 << i
	}
	return counts
}

// someCounts: counts of all kinds, at least one of them 0 in some.
func someCounts() [][]int {
	list := [][]int{
		{3, 3}, {5, 1, 1}, {1, 1, 2, 3, 5, 8}, {8, 5, 3, 2, 1, 1}, {1, 1, 1, 1}, {0, 7, 0, 7, 0}, {1 << 40, 1, 1}, {1 << 40, 1 << 40, 1 << 40},
		sums(16), sums(17), sums(40), powers(15), powers(16), powers(17), powers(41), slices.Repeat([]int{1}, 17), slices.Repeat([]int{1 << 40}, 31),
		slices.Concat(powers(20), make([]int, 9), powers(20)), {1, 1, 1, 1, 9, 9, 9, 9, 9, 100, 100, 0, 0, 4},
	}
	s := &numbers{2468}
	for range 120 {
		list = append(list, s.counts(2+s.below(40)))
	}
	return list
}

// usedIn: how many counts aren't 0.
func usedIn(counts []int) int {
	n := 0
	for _, c := range counts {
		if c != 0 {
			n++
		}
	}
	return n
}

// slowCost: counts times lengths.
func slowCost(counts, lengths []int) int {
	sum := 0
	for i, n := range counts {
		for range lengths[i] {
			sum += n
		}
	}
	return sum
}

// leastOfAll: the least cost of all lengths from 1 to the limit that take the
// whole room, by trying each.
func leastOfAll(counts []int, limit int) int {
	least := math.MaxInt
	var try func(at, room, cost int)
	try = func(at, room, cost int) {
		switch {
		case room < 0 || cost >= least:
		case at == len(counts):
			if room == 0 {
				least = cost
			}
		case counts[at] == 0:
			try(at+1, room, cost)
		default:
			for n := 1; n <= limit; n++ {
				try(at+1, room-32768>>n, cost+counts[at]*n)
			}
		}
	}
	try(0, 32768, 0)
	return least
}

// tree: codes are the ends of a tree; from the greatest count on they are laid
// on its floors. What is known: with so many floors left, so many counts laid,
// and so many branches open, what those that aren't laid cost from here on.
type tree struct {
	behind []int // the sum of the counts from each one on, the greatest first
	known  []int // 0 of what isn't known
}

const never = math.MaxInt / 2

// leastByTree: the least cost, floor by floor.
func leastByTree(counts []int, limit int) int {
	left := slices.DeleteFunc(slices.Clone(counts), func(n int) bool { return n == 0 })
	slices.Sort(left)
	behind := []int{0}
	for _, n := range left {
		behind = append(behind, behind[len(behind)-1]+n)
	}
	slices.Reverse(behind)
	return (&tree{behind, make([]int, (limit+1)*len(behind)*len(behind))}).least(limit, 0, 1)
}

func (x *tree) least(floors, laid, open int) int {
	left := len(x.behind) - 1 - laid
	if left == 0 && open == 0 {
		return 0
	}
	if floors == 0 || open > left || open == 0 {
		return never
	}
	at := (floors*len(x.behind)+laid)*len(x.behind) + open
	if x.known[at] > 0 {
		return x.known[at]
	}
	cost := never
	for n := range min(open*2, left) + 1 {
		cost = min(cost, x.behind[laid]+x.least(floors-1, laid+n, open*2-n))
	}
	x.known[at] = cost
	return cost
}

// leastWithoutLimit: the cost where the two least ones are always joined.
func leastWithoutLimit(counts []int) int {
	left := slices.DeleteFunc(slices.Clone(counts), func(n int) bool { return n == 0 })
	cost := 0
	for len(left) > 1 {
		slices.Sort(left)
		left[1] += left[0]
		left = left[1:]
		cost += left[0]
	}
	return cost
}

// wantLengths asks whether Build answers lengths for counts, of that cost, and
// the greater counts with no greater ones.
func wantLengths(t *testing.T, counts []int, limit, cost int) []int {
	t.Helper()
	lengths, e := lens.Build(counts, limit)
	if e != api.OK || len(lengths) != len(counts) {
		t.Fatalf("Build(%v, %d): %v, errno %d", counts, limit, lengths, e)
	}
	for i, n := range lengths {
		if (n == 0) != (counts[i] == 0) || n < 0 || n > limit {
			t.Errorf("Build(%v, %d): %v", counts, limit, lengths)
		}
		for k, m := range lengths {
			if counts[i] > counts[k] && counts[k] > 0 && n > m {
				t.Errorf("Build(%v, %d): %d of %d, %d of %d", counts, limit, n, counts[i], m, counts[k])
			}
		}
	}
	whole := []int{0, 16384}
	if room, ok := huff.Room(lengths); !ok || room != append(whole, 32768)[min(usedIn(counts), 2)] {
		t.Errorf("Build(%v, %d): %v, room %d", counts, limit, lengths, room)
	}
	if slowCost(counts, lengths) != cost || lens.Cost(counts, lengths) != cost {
		t.Errorf("Build(%v, %d): %v, cost %d, want %d", counts, limit, lengths, lens.Cost(counts, lengths), cost)
	}
	return lengths
}

func wantError(t *testing.T, counts []int, limit int, want api.Errno) {
	t.Helper()
	if lengths, e := lens.Build(counts, limit); len(lengths) != 0 || e != want {
		t.Errorf("Build(%v, %d): %v, errno %d, want %d", counts, limit, lengths, e, want)
	}
}

// P5.1

func TestBuildTheExample(t *testing.T) {
	if l := wantLengths(t, []int{5, 1, 1}, 15, 9); !slices.Equal(l, []int{1, 2, 2}) {
		t.Errorf("%v", l)
	}
}

func TestBuildWhereOneCanBe(t *testing.T) {
	for _, c := range []struct {
		counts []int
		limit  int
		want   []int
	}{
		{nil, 1, nil}, {[]int{}, 15, nil}, {[]int{0}, 15, []int{0}}, {[]int{0, 0, 0}, 1, []int{0, 0, 0}},
		{[]int{1}, 1, []int{1}}, {[]int{1 << 40}, 15, []int{1}}, {[]int{0, 9, 0}, 7, []int{0, 1, 0}},
		{[]int{3, 3}, 1, []int{1, 1}}, {[]int{0, 1, 0, 1 << 40}, 15, []int{0, 1, 0, 1}}, {[]int{1, 5, 1}, 2, []int{2, 1, 2}},
		{[]int{8, 4, 2, 1, 1}, 15, []int{1, 2, 3, 4, 4}}, {[]int{8, 4, 2, 1, 1}, 4, []int{1, 2, 3, 4, 4}}, {[]int{1, 1, 1, 100}, 2, []int{2, 2, 2, 2}},
		{slices.Repeat([]int{7}, 256), 15, slices.Repeat([]int{8}, 256)}, {slices.Repeat([]int{7}, 256), 8, slices.Repeat([]int{8}, 256)},
	} {
		if l := wantLengths(t, c.counts, c.limit, slowCost(c.counts, c.want)); !slices.Equal(l, c.want) {
			t.Errorf("Build(%v, %d): %v, want %v", c.counts, c.limit, l, c.want)
		}
	}
}

// All lists of up to five counts of 0 to 4, under all limits that matter.
func TestBuildOfAllShortLists(t *testing.T) {
	var all func(ahead []int)
	all = func(ahead []int) {
		for limit := 1; limit <= 5; limit++ {
			switch used := usedIn(ahead); {
			case used > 1<<limit:
				wantError(t, ahead, limit, api.ErrLimit)
			case used > 1:
				wantLengths(t, ahead, limit, leastOfAll(ahead, limit))
			default:
				wantLengths(t, ahead, limit, slowCost(ahead, slices.Repeat([]int{1}, len(ahead))))
			}
		}
		for n := 0; n <= 4 && len(ahead) < 5; n++ {
			all(append(slices.Clone(ahead), n))
		}
	}
	all(nil)
}

func TestBuildOfTheLeastCost(t *testing.T) {
	for _, counts := range someCounts() {
		for limit := 1; limit <= 15; limit++ {
			if usedIn(counts) > 1<<limit {
				wantError(t, counts, limit, api.ErrLimit)
			} else if usedIn(counts) > 1 {
				wantLengths(t, counts, limit, leastByTree(counts, limit))
			}
		}
	}
}

func TestBuildOfManyCounts(t *testing.T) {
	s := &numbers{1357}
	for _, counts := range [][]int{
		slices.Repeat([]int{1}, 320), slices.Repeat([]int{1 << 40}, 320), s.counts(320), s.counts(319), s.counts(288),
		append(slices.Repeat([]int{1}, 319), 1<<40), slices.Concat(powers(41), slices.Repeat([]int{1}, 279)),
	} {
		for _, limit := range []int{9, 10, 15} {
			wantLengths(t, counts, limit, leastByTree(counts, limit))
		}
	}
}

// Where the limit stands in nothing's way, the cost is that without one.
func TestBuildFarFromTheLimit(t *testing.T) {
	for _, counts := range [][]int{sums(16), powers(16), {9, 1, 1, 1, 1, 4, 4, 6}, slices.Repeat([]int{5}, 320), {1 << 40, 1 << 39, 1<<39 - 1}} {
		wantLengths(t, counts, 15, leastWithoutLimit(counts))
	}
	if l := wantLengths(t, powers(16), 15, leastWithoutLimit(powers(16))); slices.Max(l) != 15 {
		t.Errorf("%v", l)
	}
}

func TestBuildAtTheLimit(t *testing.T) {
	for limit := 1; limit <= 8; limit++ {
		full := s320(1 << limit)
		for i, n := range wantLengths(t, full, limit, slowCost(full, slices.Repeat([]int{limit}, 320))) {
			if n != 0 && n != limit {
				t.Errorf("limit %d, symbol %d: %d", limit, i, n)
			}
		}
		wantError(t, s320(1<<limit+1), limit, api.ErrLimit)
		wantError(t, s320(320), limit, api.ErrLimit)
	}
	for limit := 9; limit <= 15; limit++ {
		wantLengths(t, s320(320), limit, leastByTree(s320(320), limit))
	}
}

// s320: 320 counts, of which the last ones, so many, aren't 0.
func s320(used int) []int {
	counts := make([]int, 320)
	for i := range used {
		counts[319-i] = 1 + i*i
	}
	return counts
}

func TestBuildOutOfBounds(t *testing.T) {
	for _, limit := range append([]int{0, 16, 17, 64, 65}, farNumbers...) {
		for _, counts := range [][]int{nil, {}, {0}, {1}, {1, 1, 1}, {5, 1, 1}, {-1}} {
			wantError(t, counts, limit, api.ErrRange)
		}
	}
	for _, n := range farNumbers {
		for _, counts := range [][]int{{n}, {1, n}, {n, 1}, {0, 0, n}, {1, 1, 1, n}, append(make([]int, 319), n)} {
			wantError(t, counts, 15, api.ErrRange)
			wantError(t, counts, 1, api.ErrRange)
		}
	}
	for _, n := range []int{321, 322, 1000, 1 << 15, 1 << 16} {
		for _, limit := range []int{1, 9, 15} {
			wantError(t, make([]int, n), limit, api.ErrRange)
			wantError(t, slices.Repeat([]int{1}, n), limit, api.ErrRange)
		}
	}
	wantLengths(t, make([]int, 320), 1, 0)
	wantLengths(t, []int{1 << 40, 1 << 40}, 1, 1<<41)
}

func TestCost(t *testing.T) {
	for _, c := range []struct {
		counts, lengths []int
		want            int
	}{
		{nil, nil, 0}, {nil, []int{1}, 0}, {[]int{1}, nil, 0}, {[]int{5, 1, 1}, []int{1, 2, 2}, 9}, {[]int{5, 1, 1}, []int{1, 2}, 7}, {[]int{5, 1}, []int{1, 2, 2}, 7},
		{[]int{7, 7, 7}, []int{0, 15, 16}, 105}, {[]int{7, 0, 2}, []int{15, 15, 0}, 105}, {[]int{-1, 2, -3}, []int{5, 5, 5}, 10},
		{[]int{1 << 40, 1<<40 + 1, 1<<40 - 1}, []int{15, 15, 1}, 16<<40 - 1}, {[]int{2, -1, 3, 4}, []int{3, 3, 16}, 6},
		{[]int{-1, -2}, []int{-3, -4}, 0}, {slices.Repeat([]int{1 << 40}, 320), slices.Repeat([]int{15}, 320), 320 * 15 << 40},
		{slices.Repeat([]int{2}, 1000), slices.Repeat([]int{3}, 900), 5400},
	} {
		if n := lens.Cost(c.counts, c.lengths); n != c.want {
			t.Errorf("Cost(%v, %v): %d, want %d", c.counts, c.lengths, n, c.want)
		}
	}
	for _, far := range farNumbers {
		if n := lens.Cost([]int{far, 3, far, 3}, []int{2, far, far, 2}); n != 6 {
			t.Errorf("%d: %d", far, n)
		}
	}
}

func TestCostIsThatOfTheCode(t *testing.T) {
	for _, counts := range someCounts() {
		lengths, e := lens.Build(counts, 15)
		c, e2 := huff.New(lengths)
		if e != api.OK || e2 != api.OK || c.Cost(counts) != lens.Cost(counts, lengths) {
			t.Errorf("%v: %v", counts, lengths)
		}
	}
}

// P5.2

// said: what an item of a kind tells: how few of a length, how many, and which one.
func said(sym, ahead int) (least, most, length int) {
	switch {
	case sym < 16:
		return 1, 1, sym
	case sym == 16:
		return 3, 6, ahead
	case sym == 17:
		return 3, 10, 0
	}
	return 11, 138, 0
}

// slowPack: each time that one of all items which tells the most of what is left.
func slowPack(lengths []int) []lens.Item {
	var list []lens.Item
	for at := 0; at < len(lengths); {
		best, told := lens.Item{}, 0
		for sym := range 19 {
			ahead := -1
			if at > 0 && lengths[at-1] != 0 {
				ahead = lengths[at-1]
			}
			least, most, length := said(sym, ahead)
			n := 0
			for n < most && at+n < len(lengths) && lengths[at+n] == length {
				n++
			}
			if n >= least && n > told {
				best, told = lens.Item{Sym: sym, Extra: n - least}, n
			}
		}
		list = append(list, best)
		at += told
	}
	return list
}

// slowUnpack: the lengths of items that are right.
func slowUnpack(list []lens.Item) []int {
	var lengths []int
	for _, x := range list {
		ahead := 0
		if len(lengths) > 0 {
			ahead = lengths[len(lengths)-1]
		}
		least, _, length := said(x.Sym, ahead)
		lengths = append(lengths, slices.Repeat([]int{length}, least+x.Extra)...)
	}
	return lengths
}

func wantItems(t *testing.T, lengths []int, want ...lens.Item) {
	t.Helper()
	if list := lens.Pack(lengths); !slices.Equal(list, want) {
		t.Errorf("Pack(%v): %v, want %v", lengths, list, want)
	}
	if len(lengths) <= 320 {
		wantUnpacked(t, want, lengths...)
	}
}

func wantUnpacked(t *testing.T, list []lens.Item, want ...int) {
	t.Helper()
	if lengths, ok := lens.Unpack(list); !ok || !slices.Equal(lengths, want) {
		t.Errorf("Unpack(%v): %v %v, want %v", list, lengths, ok, want)
	}
}

func wantNoLengths(t *testing.T, list ...lens.Item) {
	t.Helper()
	if lengths, ok := lens.Unpack(list); ok || len(lengths) != 0 {
		t.Errorf("Unpack(%v): %v %v", list, lengths, ok)
	}
}

func TestPackNoughts(t *testing.T) {
	zero := lens.Item{}
	for n, want := range map[int][]lens.Item{
		0: nil, 1: {zero}, 2: {zero, zero}, 3: {{17, 0}}, 4: {{17, 1}}, 10: {{17, 7}}, 11: {{18, 0}}, 12: {{18, 1}}, 137: {{18, 126}}, 138: {{18, 127}},
		139: {{18, 127}, zero}, 140: {{18, 127}, zero, zero}, 141: {{18, 127}, {17, 0}}, 148: {{18, 127}, {17, 7}}, 149: {{18, 127}, {18, 0}},
		276: {{18, 127}, {18, 127}}, 277: {{18, 127}, {18, 127}, zero}, 320: {{18, 127}, {18, 127}, {18, 33}},
	} {
		wantItems(t, make([]int, n), want...)
	}
}

func TestPackTheSame(t *testing.T) {
	for x := 1; x <= 15; x++ {
		first := lens.Item{Sym: x}
		for n, want := range map[int][]lens.Item{
			1: {first}, 2: {first, first}, 3: {first, first, first}, 4: {first, {16, 0}}, 5: {first, {16, 1}}, 6: {first, {16, 2}}, 7: {first, {16, 3}},
			8: {first, {16, 3}, first}, 9: {first, {16, 3}, first, first}, 10: {first, {16, 3}, {16, 0}}, 13: {first, {16, 3}, {16, 3}},
		} {
			wantItems(t, slices.Repeat([]int{x}, n), want...)
		}
	}
}

func TestPackMixed(t *testing.T) {
	wantItems(t, []int{15, 0, 0, 0, 15}, lens.Item{Sym: 15}, lens.Item{Sym: 17}, lens.Item{Sym: 15})
	wantItems(t, []int{0, 0, 15, 0, 15, 15}, lens.Item{}, lens.Item{}, lens.Item{Sym: 15}, lens.Item{}, lens.Item{Sym: 15}, lens.Item{Sym: 15})
	wantItems(t, []int{3, 3, 3, 3, 4, 4, 4, 4}, lens.Item{Sym: 3}, lens.Item{Sym: 16}, lens.Item{Sym: 4}, lens.Item{Sym: 16})
	wantItems(t, []int{5, 0, 5, 5, 5}, lens.Item{Sym: 5}, lens.Item{}, lens.Item{Sym: 5}, lens.Item{Sym: 5}, lens.Item{Sym: 5})
}

// Rows of all lengths, of up to 320 of them, behind others and ahead of others.
func TestPackRows(t *testing.T) {
	for n := range 319 {
		for _, x := range []int{0, 1, 15} {
			row := slices.Repeat([]int{x}, n)
			for _, lengths := range [][]int{row, slices.Concat([]int{0}, row), slices.Concat([]int{1}, row, []int{15}), slices.Concat([]int{x}, row, []int{0})} {
				wantItems(t, lengths, slowPack(lengths)...)
			}
		}
	}
}

// Every list of up to 13 lengths of 0 and 7.
func TestPackOfAllShortLists(t *testing.T) {
	for n := range 14 {
		for v := range 1 << n {
			lengths := make([]int, n)
			for i := range lengths {
				lengths[i] = 7 * (v >> i & 1)
			}
			wantItems(t, lengths, slowPack(lengths)...)
		}
	}
}

func TestPackOfAnyLengths(t *testing.T) {
	s := &numbers{8642}
	for range 400 {
		lengths := s.lengths(s.below(321))
		wantItems(t, lengths, slowPack(lengths)...)
	}
}

func TestPackNoLengths(t *testing.T) {
	for _, n := range append([]int{16, 17, 18, 19}, farNumbers...) {
		for _, lengths := range [][]int{{n}, {1, n}, {n, 1}, {0, 0, 0, n}, {n, n, n, n}, append(make([]int, 319), n)} {
			if list := lens.Pack(lengths); len(list) != 0 {
				t.Errorf("Pack(%v): %v", lengths, list)
			}
		}
	}
}

// How many lengths Pack takes is not bounded.
func TestPackOfManyLengths(t *testing.T) {
	for _, lengths := range [][]int{make([]int, 321), slices.Repeat([]int{9}, 321), make([]int, 5000), slices.Repeat([]int{1, 0}, 1000)} {
		wantItems(t, lengths, slowPack(lengths)...)
	}
}

// All items of two numbers around their bounds, behind no length, and behind some.
func TestUnpackBounds(t *testing.T) {
	for sym := -3; sym <= 40; sym++ {
		for extra := -3; extra <= 140; extra++ {
			x := lens.Item{Sym: sym, Extra: extra}
			least, most, _ := said(sym, 0)
			if sym < 0 || sym > 18 || extra < 0 || extra > most-least {
				wantNoLengths(t, x)
				wantNoLengths(t, lens.Item{Sym: 5}, x)
				wantNoLengths(t, lens.Item{Sym: 5}, x, lens.Item{Sym: 5})
				continue
			}
			for _, ahead := range []lens.Item{{Sym: 5}, {}, {Sym: 15}, {Sym: 17, Extra: 2}, {Sym: 18}} {
				list := []lens.Item{ahead, x, {Sym: 9}}
				wantUnpacked(t, list, slowUnpack(list)...)
			}
			if sym != 16 {
				wantUnpacked(t, []lens.Item{x}, slowUnpack([]lens.Item{x})...)
			}
		}
	}
}

func TestUnpackFarNumbers(t *testing.T) {
	for _, n := range farNumbers {
		for _, x := range []lens.Item{{n, 0}, {n, 1}, {n, n}, {0, n}, {15, n}, {16, n}, {17, n}, {18, n}} {
			wantNoLengths(t, x)
			wantNoLengths(t, lens.Item{Sym: 1}, x)
			wantNoLengths(t, lens.Item{Sym: 1}, x, lens.Item{Sym: 16})
		}
	}
}

func TestUnpackNothingAhead(t *testing.T) {
	for extra := range 4 {
		wantNoLengths(t, lens.Item{Sym: 16, Extra: extra})
		wantNoLengths(t, lens.Item{Sym: 16, Extra: extra}, lens.Item{Sym: 1})
	}
	wantUnpacked(t, nil)
	wantUnpacked(t, []lens.Item{})
}

// A row of the length ahead is one of noughts too, and one behind another row.
func TestUnpackAgain(t *testing.T) {
	wantUnpacked(t, []lens.Item{{}, {Sym: 16}}, 0, 0, 0, 0)
	wantUnpacked(t, []lens.Item{{Sym: 4}, {Sym: 17}, {Sym: 16, Extra: 1}}, 4, 0, 0, 0, 0, 0, 0, 0)
	wantUnpacked(t, []lens.Item{{Sym: 4}, {Sym: 16}, {Sym: 16, Extra: 1}, {}}, 4, 4, 4, 4, 4, 4, 4, 4, 0)
	wantUnpacked(t, []lens.Item{{Sym: 4}, {Sym: 3}, {Sym: 16}}, 4, 3, 3, 3, 3)
}

// behindOthers: items of so many lengths, and one more.
func behindOthers(n int, x lens.Item) []lens.Item {
	return append(slices.Repeat([]lens.Item{{Sym: 7}}, n), x)
}

// Just 320 lengths are told, and no more, by items of any kind.
func TestUnpackTheMost(t *testing.T) {
	for sym := range 19 {
		least, most, _ := said(sym, 7)
		for n := least; n <= most; n++ {
			x := lens.Item{Sym: sym, Extra: n - least}
			full := behindOthers(320-n, x)
			wantUnpacked(t, full, slowUnpack(full)...)
			wantNoLengths(t, behindOthers(321-n, x)...)
			wantNoLengths(t, behindOthers(320, x)...)
			wantNoLengths(t, append(full, lens.Item{})...)
		}
	}
	wantNoLengths(t, lens.Item{Sym: 18, Extra: 127}, lens.Item{Sym: 18, Extra: 127}, lens.Item{Sym: 18, Extra: 34})
	wantNoLengths(t, make([]lens.Item, 321)...)
	wantNoLengths(t, slices.Repeat([]lens.Item{{Sym: 18, Extra: 127}}, 5000)...)
}

// P5.3

func TestThereAndBack(t *testing.T) {
	s := &numbers{97531}
	for range 400 {
		lengths := s.lengths(s.below(321))
		wantUnpacked(t, lens.Pack(lengths), lengths...)
	}
	for _, counts := range someCounts() {
		lengths, _ := lens.Build(counts, 15)
		wantUnpacked(t, lens.Pack(lengths), lengths...)
	}
}

func TestCallsLeaveTheLists(t *testing.T) {
	all := []int{9, 2, 1, 3, 0, 8, 1, 1, 1, 1, 1, 9}
	kept := slices.Clone(all)
	part := all[1:10]
	lens.Build(part, 15)
	lens.Build(part, 4)
	lens.Build(part, 1)
	lens.Build(part[:1], 1)
	lens.Cost(part, part)
	lens.Pack(part)
	if !slices.Equal(all, kept) {
		t.Errorf("%v, want %v", all, kept)
	}
	items := []lens.Item{{Sym: 1}, {Sym: 2}, {Sym: 16, Extra: 1}, {Sym: 18}, {Sym: 99}}
	keptItems := slices.Clone(items)
	lens.Unpack(items[1:4])
	lens.Unpack(items)
	if !slices.Equal(items, keptItems) {
		t.Errorf("%v, want %v", items, keptItems)
	}
}

// spoil writes over a list, and behind its length.
func spoil[T any](list []T, x T) {
	list = list[:cap(list)]
	for i := range list {
		list[i] = x
	}
}

func TestAnswersAreNew(t *testing.T) {
	for range 2 {
		counts := []int{5, 1, 1, 0}
		lengths, _ := lens.Build(counts, 15)
		if !slices.Equal(lengths, []int{1, 2, 2, 0}) {
			t.Fatalf("%v", lengths)
		}
		list := lens.Pack(lengths)
		if !slices.Equal(list, []lens.Item{{Sym: 1}, {Sym: 2}, {Sym: 2}, {}}) {
			t.Fatalf("%v", list)
		}
		back, ok := lens.Unpack(list)
		spoil(list, lens.Item{Sym: 16, Extra: 3})
		if !ok || !slices.Equal(back, []int{1, 2, 2, 0}) {
			t.Fatalf("%v", back)
		}
		spoil(back, 99)
		if !slices.Equal(lengths, []int{1, 2, 2, 0}) {
			t.Fatalf("%v", lengths)
		}
		spoil(lengths, 99)
		if !slices.Equal(counts, []int{5, 1, 1, 0}) {
			t.Fatalf("%v", counts)
		}
	}
}

// Which lengths of the least cost are answered is free, but the same each time.
func TestBuildAgain(t *testing.T) {
	for _, counts := range someCounts() {
		for _, limit := range []int{6, 7, 15} {
			a, e := lens.Build(counts, limit)
			b, e2 := lens.Build(slices.Clone(counts), limit)
			if e != e2 || !slices.Equal(a, b) {
				t.Errorf("Build(%v, %d): %v, then %v", counts, limit, a, b)
			}
		}
	}
}
