package hist_test

import (
	"math"
	"slices"
	"strings"
	"testing"

	"lexiphane/api"
	"lexiphane/best"
	"lexiphane/dict"
	"lexiphane/flex"
	"lexiphane/greedy"
	"lexiphane/hist"
	"lexiphane/mean"
)

// the most tokens that there may be, as a number of its own.
const most = 356

// reckon tells what Add is to answer, by a plain reckoning: of each token all of l is gone through.
func reckon(h []int, l []int) ([]int, api.Errno) {
	if len(h) > most {
		return nil, api.ErrArg
	}
	out := make([]int, len(h))
	known := 0
	for token := range out {
		out[token] = h[token]
		for _, other := range l {
			if other == token {
				out[token]++
				known++
			}
		}
	}
	if known < len(l) {
		return nil, api.ErrToken
	}
	return out, api.OK
}

// holds asks Add of counts and tokens, and Of where the counts are all 0.
func holds(t *testing.T, h []int, l []int) {
	t.Helper()
	want, wantErr := reckon(h, l)
	got, err := hist.Add(h, l...)
	if !slices.Equal(got, want) || err != wantErr {
		t.Errorf("Add of %d to %.20d: %.20d, %d, not %.20d, %d", l, h, got, err, want, wantErr)
	}
	if slices.ContainsFunc(h, func(count int) bool { return count != 0 }) {
		return
	}
	got, err = hist.Of(len(h), l...)
	if !slices.Equal(got, want) || err != wantErr {
		t.Errorf("Of %d, size %d: %.20d, %d, not %.20d, %d", l, len(h), got, err, want, wantErr)
	}
}

// sizes tells sizes that may be, the edges among them.
func sizes() []int {
	return []int{0, 1, 2, 3, 255, 256, 257, 355, 356}
}

// outside tells numbers that are no token of so many, from the nearest on.
func outside(size int) []int {
	return []int{-1, -2, -size, -256, math.MinInt32, math.MinInt, size, size + 1, size + 256, 1 << 16, math.MaxInt32, 1 << 32, 1<<32 + 1, math.MaxInt - 1, math.MaxInt}
}

// every tells each list of at most so many of some numbers.
func every(longest int, some ...int) [][]int {
	lists := [][]int{nil}
	for k := 0; k < len(lists); k++ {
		if len(lists[k]) == longest {
			continue
		}
		for _, n := range some {
			lists = append(lists, append(slices.Clone(lists[k]), n))
		}
	}
	return lists
}

func TestP1701Example(t *testing.T) {
	if got, err := hist.Of(3, 1, 1, 2); !slices.Equal(got, []int{0, 2, 1}) || err != api.OK {
		t.Errorf("Of: %d, %d", got, err)
	}
}

// By all lists of up to five of right and wrong tokens, and all small sizes.
func TestP1701EveryShortList(t *testing.T) {
	for _, l := range every(5, -1, 0, 1, 2, 3) {
		for size := range 5 {
			holds(t, make([]int, size), l)
		}
	}
}

// To all lists of up to three counts, whichever.
func TestP1701AddToEveryShortList(t *testing.T) {
	for _, h := range every(3, -2, -1, 0, 1, 7, math.MaxInt32, math.MaxInt-3, math.MinInt) {
		for _, l := range every(3, -1, 0, 1, 2) {
			holds(t, h, l)
		}
	}
}

func TestP1701EveryToken(t *testing.T) {
	for _, size := range sizes() {
		for token := range size {
			holds(t, make([]int, size), []int{token})
			holds(t, make([]int, size), []int{token, 0, token, size - 1, token})
			holds(t, slices.Repeat([]int{9}, size), []int{0, token})
		}
	}
}

func TestP1701NoTokens(t *testing.T) {
	for _, size := range sizes() {
		for _, token := range outside(size) {
			for _, l := range [][]int{{token}, {0, token}, {token, 0}, {0, token, 0}, {token, token}} {
				if got, err := hist.Of(size, l...); len(got) != 0 || err != api.ErrToken {
					t.Errorf("Of %d, size %d: %.20d, %d", l, size, got, err)
				}
				if got, err := hist.Add(slices.Repeat([]int{3}, size), l...); len(got) != 0 || err != api.ErrToken {
					t.Errorf("Add of %d to %d counts: %.20d, %d", l, size, got, err)
				}
			}
		}
	}
}

// Of sizes that may not be, ahead of what the tokens are.
func TestP1701WrongSizes(t *testing.T) {
	for _, size := range []int{-1, -2, -356, math.MinInt32, math.MinInt, 357, 358, 1 << 16, math.MaxInt32, 1 << 32, 1<<32 + 3, math.MaxInt} {
		for _, l := range [][]int{nil, {0}, {-1}, {356}, {357}, {size}, {size - 1}} {
			if got, err := hist.Of(size, l...); len(got) != 0 || err != api.ErrArg {
				t.Errorf("Of %d, size %d: %.20d, %d", l, size, got, err)
			}
		}
	}
	for _, size := range []int{357, 358, 1000, 1 << 16} {
		for _, l := range [][]int{nil, {0}, {-1}, {356}, {357}, {size}, {size - 1}} {
			if got, err := hist.Add(slices.Repeat([]int{1}, size), l...); len(got) != 0 || err != api.ErrArg {
				t.Errorf("Add of %d to %d counts: %.20d, %d", l, size, got, err)
			}
		}
	}
}

func TestP1701NoCounts(t *testing.T) {
	for _, h := range [][]int{nil, {}} {
		if got, err := hist.Add(h); len(got) != 0 || err != api.OK {
			t.Errorf("Add of nothing: %d, %d", got, err)
		}
		if got, err := hist.Add(h, 0); len(got) != 0 || err != api.ErrToken {
			t.Errorf("Add of 0: %d, %d", got, err)
		}
	}
	if got, err := hist.Of(0); len(got) != 0 || err != api.OK {
		t.Errorf("Of nothing, size 0: %d, %d", got, err)
	}
}

// A block's bytes are no bound of how many tokens there are.
func TestP1701OfManyTokens(t *testing.T) {
	for _, count := range []int{api.MaxBlock - 1, api.MaxBlock, api.MaxBlock + 1, 1 << 17} {
		for _, token := range []int{0, 1, 255, 256, 355} {
			want := make([]int, most)
			want[token] = count
			got, err := hist.Of(most, slices.Repeat([]int{token}, count)...)
			if !slices.Equal(got, want) || err != api.OK {
				t.Errorf("Of %d times %d: %d, %d", count, token, got, err)
			}
			if used, total := hist.Used(got...), hist.Total(got...); used != 1 || total != count {
				t.Errorf("of %d times %d: %d used, %d in all", count, token, used, total)
			}
		}
	}
}

// Piece by piece it comes to the same as at once.
func TestP1701PieceByPiece(t *testing.T) {
	var l []int
	for k := range 2000 {
		l = append(l, k*k*k%most)
	}
	want, wantErr := hist.Of(most, l...)
	for _, size := range []int{1, 2, 7, 1999, 2000} {
		h := make([]int, most)
		err := api.OK
		for piece := range slices.Chunk(l, size) {
			if h, err = hist.Add(h, piece...); err != api.OK {
				t.Fatalf("Add of pieces of %d: %d", size, err)
			}
		}
		if !slices.Equal(h, want) || wantErr != api.OK {
			t.Errorf("by pieces of %d: %d, not %d, %d", size, h, want, wantErr)
		}
	}
}

func TestP1701TotalAndUsed(t *testing.T) {
	for _, h := range every(5, -3, -1, 0, 1, 8) {
		total, used := 0, len(h)
		for _, count := range h {
			total += count
			if count < 1 {
				used--
			}
		}
		if got := hist.Total(h...); got != total {
			t.Errorf("Total of %d: %d, not %d", h, got, total)
		}
		if got := hist.Used(h...); got != used {
			t.Errorf("Used of %d: %d, not %d", h, got, used)
		}
	}
}

// No size is too great for Total and Used, and no count.
func TestP1701TotalAndUsedOfMany(t *testing.T) {
	for _, size := range []int{355, 356, 357, 1 << 17} {
		h := slices.Repeat([]int{3}, size)
		if total, used := hist.Total(h...), hist.Used(h...); total != 3*size || used != size {
			t.Errorf("of %d times 3: %d in all, %d used", size, total, used)
		}
	}
	for _, h := range [][]int{{math.MaxInt32, 1, math.MaxInt32}, {1 << 32, 1 << 40}, {math.MaxInt, 0}} {
		total, used := 0, 0
		for _, count := range h {
			total += count
			used += min(count, 1)
		}
		if hist.Total(h...) != total || hist.Used(h...) != used {
			t.Errorf("of %d: %d in all, %d used", h, hist.Total(h...), hist.Used(h...))
		}
	}
}

// Of what the ways of parsing tell, the counts weighed by what each token means come to all bytes.
func TestP1701OfParsedBytes(t *testing.T) {
	d, err := dict.New("she", "he", "hers", "\x00", "\xff\xff")
	if err != nil {
		t.Fatal(err)
	}
	b := strings.Repeat("ushers and his\x00\xff\xff\xff", 20)
	for way, tokens := range [][]int{greedy.Parse(d, b), flex.Parse(d, b), best.Parse(d, b, 64)} {
		h, err := hist.Of(api.Literals+d.Len(), tokens...)
		bytes := 0
		for token, count := range h {
			bytes += count * mean.Len(d, token)
		}
		if bytes != len(b) || hist.Total(h...) != len(tokens) || err != api.OK {
			t.Errorf("way %d: %d bytes of %d, %d tokens of %d, %d", way, bytes, len(b), hist.Total(h...), len(tokens), err)
		}
	}
}

// What is handed in is left as it was, and may be changed behind the call; so may what was answered.
func TestP1701AnotherList(t *testing.T) {
	whole := []int{1, 2, 3, 44, 55}
	h, l := whole[:3], []int{0, 2, 2}
	for _, tokens := range [][]int{nil, l} {
		want, _ := reckon(h, tokens)
		got, err := hist.Add(h, tokens...)
		other, _ := hist.Add(h, tokens...)
		if !slices.Equal(whole, []int{1, 2, 3, 44, 55}) || !slices.Equal(l, []int{0, 2, 2}) {
			t.Fatalf("changed: %d, %d", whole, l)
		}
		h[1] = 99
		l[0] = 1
		other[2] = 77
		if !slices.Equal(got, want) || err != api.OK {
			t.Errorf("Add of %d: %d, %d, not %d", tokens, got, err, want)
		}
		clear(got)
		if !slices.Equal(whole, []int{1, 99, 3, 44, 55}) {
			t.Errorf("shared: %d", whole)
		}
		h[1], l[0] = 2, 0
	}
}

// An error in the last token leaves the counts as they were.
func TestP1701NothingCountedBesideAnError(t *testing.T) {
	h := []int{5, -2}
	if got, err := hist.Add(h, 0, 1, 1, 2); len(got) != 0 || err != api.ErrToken || !slices.Equal(h, []int{5, -2}) {
		t.Errorf("Add: %d, %d, and %d", got, err, h)
	}
}
