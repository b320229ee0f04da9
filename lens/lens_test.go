package lens_test

import (
	"cmp"
	"math"
	"slices"
	"testing"

	"lexiphane/api"
	"lexiphane/dict"
	"lexiphane/flex"
	"lexiphane/hist"
	"lexiphane/lens"
)

// the most bits and the most counts that there may be, and Kraft of codes that leave no room, as numbers of their own.
const (
	mostBits   = 15
	mostCounts = 356
	full       = 32768
)

// thing is a symbol or a package; in it stand its symbols.
type thing struct {
	count   int
	symbols []int
}

// present tells how many counts are above 0.
func present(counts []int) int {
	n := 0
	for _, count := range counts {
		if count > 0 {
			n++
		}
	}
	return n
}

// reckon tells the lengths word by word: each package tells its symbols, each list is sorted whole.
func reckon(most int, counts []int) []int {
	out := make([]int, len(counts))
	n := present(counts)
	if n == 1 {
		out[slices.Index(counts, slices.Max(counts))] = 1
	}
	if n < 2 {
		return out
	}
	byCount := func(a, b thing) int { return cmp.Compare(a.count, b.count) }
	var first []thing
	for symbol, count := range counts {
		if count > 0 {
			first = append(first, thing{count, []int{symbol}})
		}
	}
	slices.SortStableFunc(first, byCount)
	list := first
	for range most - 1 {
		next := slices.Clone(first)
		for k := 0; k+1 < len(list); k += 2 {
			next = append(next, thing{list[k].count + list[k+1].count, slices.Concat(list[k].symbols, list[k+1].symbols)})
		}
		slices.SortStableFunc(next, byCount)
		list = next
	}
	for _, x := range list[:2*n-2] {
		for _, symbol := range x.symbols {
			out[symbol]++
		}
	}
	return out
}

// least tells the least weight of lengths within most that leave no room, bit by bit.
// At each depth so many codes are begun; each ends there, or goes on by a 0 and by a 1. The greater counts end first.
func least(most int, counts []int) int {
	sorted := slices.DeleteFunc(slices.Clone(counts), func(count int) bool { return count == 0 })
	slices.SortFunc(sorted, func(a, b int) int { return cmp.Compare(b, a) })
	behind := make([]int, len(sorted)+1)
	for k := len(sorted) - 1; k >= 0; k-- {
		behind[k] = behind[k+1] + sorted[k]
	}
	known := map[[3]int]int{}
	var from func(depth, ended, begun int) int
	from = func(depth, ended, begun int) int {
		switch left := len(sorted) - ended; {
		case begun == left:
			return 0
		case depth == most || begun > left || begun == 0:
			return math.MaxInt / 2
		}
		key := [3]int{depth, ended, begun}
		if w, ok := known[key]; ok {
			return w
		}
		w := math.MaxInt / 2
		for stop := range begun {
			w = min(w, behind[ended+stop]+from(depth+1, ended+stop, 2*(begun-stop)))
		}
		known[key] = w
		return w
	}
	return from(0, 0, 1)
}

// bounded asks Of of counts that may be: its lengths, and that none are shorter.
func bounded(t *testing.T, most int, counts []int) {
	t.Helper()
	got, err := lens.Of(most, counts...)
	if want := reckon(most, counts); !slices.Equal(got, want) || err != api.OK {
		t.Fatalf("Of(%d, %d): %d, %d, not %d", most, counts, got, err, want)
	}
	if present(counts) < 2 {
		return
	}
	for symbol, size := range got {
		if size > most || (size < 1) != (counts[symbol] < 1) {
			t.Errorf("Of(%d, %d): %d", most, counts, got)
		}
	}
	if lens.Kraft(got...) != full {
		t.Errorf("Of(%d, %d): %d leave room", most, counts, got)
	}
	if w := lens.Weight(got, counts...); w != least(most, counts) {
		t.Errorf("Of(%d, %d): %d weigh %d, not %d", most, counts, got, w, least(most, counts))
	}
}

// refused asks Of of what is to be an error.
func refused(t *testing.T, most int, counts []int, want api.Errno) {
	t.Helper()
	if got, err := lens.Of(most, counts...); len(got) != 0 || err != want {
		t.Errorf("Of(%d, %.20d): %.20d, %d, not %d", most, counts, got, err, want)
	}
}

// every tells each list of at most so many of some numbers.
func every(longest int, some ...int) [][]int {
	lists := [][]int{nil}
	for k := 0; k < len(lists); k++ {
		if len(lists[k]) == longest {
			continue
		}
		for _, n := range some {
			lists = append(lists, append(slices.Clone(lists[k]), n))
		}
	}
	return lists
}

// made tells so many counts by a rule.
func made(n int, rule func(k int) int) []int {
	counts := make([]int, n)
	for k := range counts {
		counts[k] = rule(k)
	}
	return counts
}

// growing tells so many counts, each of which is the two ahead of it, and at most what may be.
func growing(n int) []int {
	counts := []int{1, 1}
	for len(counts) < n {
		counts = append(counts, min(counts[len(counts)-1]+counts[len(counts)-2], 1<<30))
	}
	return counts
}

func TestP1801Example(t *testing.T) {
	if got, err := lens.Of(15, 1, 1, 2); !slices.Equal(got, []int{2, 2, 1}) || err != api.OK {
		t.Errorf("Of: %d, %d", got, err)
	}
}

// By all short lists of counts, at each most for which they are not too many.
func TestP1801And1803EveryShortList(t *testing.T) {
	for _, counts := range slices.Concat(every(5, 0, 1, 2, 3, 7), every(7, 1, 2, 4)) {
		for most := 1; most <= mostBits; most++ {
			if present(counts) > 1<<most {
				refused(t, most, counts, api.ErrSize)
			} else {
				bounded(t, most, counts)
			}
		}
	}
}

func TestP1801NoneAndOne(t *testing.T) {
	for most := 1; most <= mostBits; most++ {
		for _, n := range []int{0, 1, 2, 3, 355, 356} {
			got, err := lens.Of(most, make([]int, n)...)
			if !slices.Equal(got, make([]int, n)) || err != api.OK {
				t.Errorf("Of(%d, %d times 0): %d, %d", most, n, got, err)
			}
			for symbol := range n {
				for _, count := range []int{1, 2, 1 << 30} {
					counts, want := make([]int, n), make([]int, n)
					counts[symbol], want[symbol] = count, 1
					if got, err := lens.Of(most, counts...); !slices.Equal(got, want) || err != api.OK {
						t.Errorf("Of(%d, %d alone of %d): %d, %d", most, symbol, n, got, err)
					}
				}
			}
		}
	}
}

// Of as much, a symbol goes ahead of a package, and of symbols the one of the lower number.
func TestP1801OfAsMuch(t *testing.T) {
	for _, x := range []struct {
		most   int
		counts []int
		want   []int
	}{
		{15, []int{1, 1, 1}, []int{2, 2, 1}},
		{15, []int{1, 1, 2, 2}, []int{2, 2, 2, 2}},
		{15, []int{2, 2, 1, 1}, []int{2, 2, 2, 2}},
		{15, []int{2, 1, 2, 1, 2}, []int{2, 3, 2, 3, 2}},
		{15, []int{1, 1, 1, 1, 1}, []int{3, 3, 2, 2, 2}},
		{15, []int{0, 3, 0, 3, 3, 0}, []int{0, 2, 0, 2, 1, 0}},
		{15, []int{1, 1, 1, 3, 3}, []int{3, 3, 2, 2, 2}},
		{15, []int{1, 1, 2, 3, 5}, []int{4, 4, 3, 2, 1}},
	} {
		if got, err := lens.Of(x.most, x.counts...); !slices.Equal(got, x.want) || err != api.OK {
			t.Errorf("Of(%d, %d): %d, %d, not %d", x.most, x.counts, got, err, x.want)
		}
	}
	for n := 2; n <= 40; n++ {
		for most := 6; most <= mostBits; most++ {
			bounded(t, most, slices.Repeat([]int{1 << 30}, n))
			bounded(t, most, made(n, func(k int) int { return 1 << (k % 3) }))
			bounded(t, most, made(n, func(k int) int { return (n - k) / 4 }))
		}
	}
}

// Without a bound the lengths would be greater than most.
func TestP1801And1803Bounds(t *testing.T) {
	for _, n := range []int{2, 3, 4, 15, 16, 17, 18, 30, 44, 60} {
		up := growing(n)
		down := slices.Clone(up)
		slices.Reverse(down)
		for most := 1; most <= mostBits; most++ {
			if n > 1<<most {
				refused(t, most, up, api.ErrSize)
				continue
			}
			bounded(t, most, up)
			bounded(t, most, down)
			bounded(t, most, made(n, func(k int) int { return 1 << (k % 31) }))
		}
	}
}

// As many symbols as codes of most bits, each has most bits; one less, one is shorter.
func TestP1801AndNoMoreRoom(t *testing.T) {
	for most := 1; most <= 8; most++ {
		n := 1 << most
		counts := made(n, func(k int) int { return 1 + k*k%61 })
		if got, err := lens.Of(most, counts...); !slices.Equal(got, slices.Repeat([]int{most}, n)) || err != api.OK {
			t.Errorf("Of(%d, %d): %d, %d", most, counts, got, err)
		}
		bounded(t, most, counts)
		bounded(t, most, counts[1:])
		bounded(t, most+1, append(counts, 5))
		refused(t, most, append(counts, 5), api.ErrSize)
		spread := append(counts, make([]int, mostCounts-n)...)
		bounded(t, most, spread)
		spread[mostCounts-1] = 1
		refused(t, most, spread, api.ErrSize)
	}
}

func TestP1801And1803OfMany(t *testing.T) {
	rules := []func(k int) int{
		func(k int) int { return 1 },
		func(k int) int { return 1 << 30 },
		func(k int) int { return 1 + k*k%97 },
		func(k int) int { return 1 << (k % 31) },
		func(k int) int { return k * k * k % 11 },
		func(k int) int { return 1 + k*k*k },
		func(k int) int { return 1 + 100000/(1+k) },
	}
	for _, rule := range rules {
		for _, n := range []int{100, 355, 356} {
			counts := made(n, rule)
			for _, most := range []int{9, 10, 12, 15} {
				got, err := lens.Of(most, counts...)
				if want := reckon(most, counts); !slices.Equal(got, want) || err != api.OK {
					t.Errorf("Of(%d, %d): %d, %d, not %d", most, counts, got, err, want)
				}
				if slices.Max(got) > most || lens.Kraft(got...) != full {
					t.Errorf("Of(%d, %d): %d", most, counts, got)
				}
			}
		}
		bounded(t, 9, made(100, rule))
	}
}

func TestP1801WrongMost(t *testing.T) {
	for _, most := range []int{0, -1, -15, math.MinInt32, math.MinInt, 16, 17, 64, 1 << 16, 1 << 32, 1<<32 + 1, math.MaxInt} {
		for _, counts := range [][]int{nil, {0}, {1}, {1, 2}, {-1}, {1 << 31}, make([]int, 357), slices.Repeat([]int{1}, 357)} {
			refused(t, most, counts, api.ErrArg)
		}
	}
}

func TestP1801WrongCounts(t *testing.T) {
	for _, count := range []int{-1, -2, math.MinInt32, math.MinInt, 1<<30 + 1, 1 << 31, 1 << 32, 1<<32 + 1, math.MaxInt} {
		for most := 1; most <= mostBits; most++ {
			for _, counts := range [][]int{{count}, {count, 1}, {1, count}, {0, 0, count}, {1, 1, count, 1}, {count, count}} {
				refused(t, most, counts, api.ErrArg)
			}
			// Ahead of being too many.
			refused(t, most, append(slices.Repeat([]int{1}, 1<<min(most, 9)), 1, count), api.ErrArg)
			refused(t, most, append([]int{count}, make([]int, 400)...), api.ErrArg)
			refused(t, most, append(make([]int, 400), count), api.ErrArg)
		}
	}
	for most := 1; most <= mostBits; most++ {
		bounded(t, most, []int{1 << 30, 0, 1 << 30})
		bounded(t, most, []int{1<<30 - 1, 1 << 30})
	}
}

func TestP1801TooManyCounts(t *testing.T) {
	for _, n := range []int{357, 358, 1000, 1 << 16} {
		for most := 1; most <= mostBits; most++ {
			refused(t, most, make([]int, n), api.ErrSize)
			refused(t, most, append(make([]int, n-1), 1), api.ErrSize)
			refused(t, most, slices.Repeat([]int{1}, n), api.ErrSize)
		}
	}
}

// What is handed in is left as it was, and may be changed behind the call; so may what was answered.
func TestP1801AnotherList(t *testing.T) {
	for _, whole := range [][]int{{9, 0, 3, 3, 1, 77}, {0, 0, 0, 0, 8}, {0, 5, 0, 0, 0, 6}} {
		before := slices.Clone(whole)
		counts := whole[:4]
		want := reckon(4, counts)
		got, err := lens.Of(4, counts...)
		other, _ := lens.Of(4, counts...)
		if !slices.Equal(whole, before) {
			t.Fatalf("changed: %d, not %d", whole, before)
		}
		for k := range other {
			counts[k], other[k] = 1, 7
		}
		if !slices.Equal(got, want) || err != api.OK {
			t.Errorf("Of(4, %d): %d, %d, not %d", before[:4], got, err, want)
		}
	}
}

// Of what stands in parsed bytes.
func TestP1801And1803OfTokens(t *testing.T) {
	d, err := dict.New("she", "he", "hers", "\x00", "\xff\xff")
	if err != nil {
		t.Fatal(err)
	}
	h, code := hist.Of(api.Literals+d.Len(), flex.Parse(d, "ushers and his\x00\xff\xff\xff, she and her, the others and heirs")...)
	if code != api.OK {
		t.Fatal(code)
	}
	for most := 5; most <= mostBits; most++ {
		bounded(t, most, h)
	}
}

func TestP1802Weight(t *testing.T) {
	for _, sizes := range every(3, -1, 0, 1, 3, 16) {
		for _, counts := range every(3, -2, 0, 1, 5, 1<<30) {
			want := 0
			for k, size := range sizes {
				if k < len(counts) {
					want += size * counts[k]
				}
			}
			if got := lens.Weight(sizes, counts...); got != want {
				t.Errorf("Weight(%d, %d): %d, not %d", sizes, counts, got, want)
			}
		}
	}
	if got := lens.Weight(slices.Repeat([]int{15}, 1<<16), slices.Repeat([]int{1 << 30}, 1<<16+1)...); got != 15<<46 {
		t.Errorf("Weight of many: %d", got)
	}
}

func TestP1802Kraft(t *testing.T) {
	room := map[int]int{}
	for size, left := mostBits, 1; size >= 1; size, left = size-1, 2*left {
		room[size] = left
	}
	some := []int{0, 1, 2, 7, 14, 15, 16}
	for _, sizes := range every(5, some...) {
		want := 0
		for _, size := range sizes {
			want += room[size]
		}
		if got := lens.Kraft(sizes...); got != want {
			t.Errorf("Kraft(%d): %d, not %d", sizes, got, want)
		}
	}
	for _, size := range []int{0, -1, -2, -15, math.MinInt32, math.MinInt, 16, 17, 63, 64, 1 << 16, 1 << 32, 1<<32 + 1, math.MaxInt} {
		if got := lens.Kraft(size); got != 0 {
			t.Errorf("Kraft(%d): %d", size, got)
		}
		if got := lens.Kraft(3, size, 15); got != 4097 {
			t.Errorf("Kraft(3, %d, 15): %d", size, got)
		}
	}
	for size := 1; size <= mostBits; size++ {
		if got := lens.Kraft(slices.Repeat([]int{size}, 1<<17)...); got != room[size]<<17 {
			t.Errorf("Kraft of many times %d: %d", size, got)
		}
	}
}

// lengths tells each list of n lengths of at most most that leave no room.
func lengths(n, most int) [][]int {
	var some []int
	for size := 1; size <= most; size++ {
		some = append(some, size)
	}
	return slices.DeleteFunc(every(n, some...), func(sizes []int) bool {
		return len(sizes) != n || lens.Kraft(sizes...) != full
	})
}

// Held against all lengths that there are.
func TestP1803AmongAllLengths(t *testing.T) {
	for n := 2; n <= 5; n++ {
		for most := 1; most <= 5; most++ {
			others := lengths(n, most)
			for _, counts := range every(n, 1, 2, 3, 9) {
				if len(counts) < n || n > 1<<most {
					continue
				}
				got, err := lens.Of(most, counts...)
				w := lens.Weight(got, counts...)
				lighter := func(sizes []int) bool { return lens.Weight(sizes, counts...) < w }
				if err != api.OK || slices.ContainsFunc(others, lighter) {
					t.Errorf("Of(%d, %d): %d, %d", most, counts, got, err)
				}
			}
		}
	}
}
