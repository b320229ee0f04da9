package hits_test

import (
	"math"
	"slices"
	"strings"
	"testing"

	"lexiphane/api"
	"lexiphane/dict"
	"lexiphane/hits"
	"lexiphane/links"
	"lexiphane/scan"
	"lexiphane/trie"
)

// book tells a dictionary of phrases that dict must take.
func book(t *testing.T, l ...string) *dict.Dict {
	t.Helper()
	d, err := dict.New(l...)
	if err != nil {
		t.Fatalf("dict.New(%.60q): %v", l, err)
	}
	return d
}

// standing tells the ids of the phrases that stand in b at at, the longest first, by a plain reckoning: from the greatest length down.
func standing(l []string, b string, at int) []int {
	var ids []int
	for size := api.MaxPhrase; size > 0; size-- {
		if at+size > len(b) {
			continue
		}
		if id := slices.Index(l, b[at:at+size]); id >= 0 {
			ids = append(ids, id)
		}
	}
	return ids
}

// same holds lists against one another; one that is nil is empty.
func same(x, y [][]int) bool { return slices.EqualFunc(x, y, slices.Equal[[]int]) }

// holdsBytes asks all calls of one text, and Longest of places that are none, too.
func holdsBytes(t *testing.T, d *dict.Dict, l []string, b string) {
	t.Helper()
	ids, sizes := make([][]int, len(b)), make([][]int, len(b))
	for at := range len(b) {
		ids[at] = standing(l, b, at)
		for _, id := range ids[at] {
			sizes[at] = append(sizes[at], len(l[id]))
		}
		if len(ids[at]) > 0 {
			holdsLongest(t, d, b, at, ids[at][0], sizes[at][0])
		} else {
			holdsLongest(t, d, b, at, -1, 0)
		}
	}
	for _, at := range outside(len(b)) {
		holdsLongest(t, d, b, at, -1, 0)
	}
	if len(b) > api.MaxBlock {
		ids, sizes = nil, nil
	}
	if got := hits.Starts(d, len(b), scan.All(links.New(trie.New(d)), b)...); !same(got, ids) {
		t.Errorf("Starts of %.60q in %.60q: %d, not %d", l, b, got, ids)
	}
	if got := hits.Lengths(d, b); !same(got, sizes) {
		t.Errorf("Lengths of %.60q in %.60q: %d, not %d", l, b, got, sizes)
	}
}

// holdsLongest asks Longest of one place.
func holdsLongest(t *testing.T, d *dict.Dict, b string, at, id, size int) {
	t.Helper()
	if gotId, gotSize := hits.Longest(d, b, at); gotId != id || gotSize != size {
		t.Errorf("Longest in %.60q at %d: %d, %d, not %d, %d", b, at, gotId, gotSize, id, size)
	}
}

// outside tells numbers that are no place in so many bytes.
func outside(count int) []int {
	return []int{-1, -2, -count - 1, count, count + 1, count + api.MaxPhrase, math.MinInt, math.MaxInt}
}

// rising tells the texts of 1 to count bytes a, the shortest first.
func rising(count int) []string {
	var l []string
	for k := range count {
		l = append(l, strings.Repeat("a", k+1))
	}
	return l
}

// singles tells the most phrases of one byte each, the last bytes among them.
func singles() []string {
	var l []string
	for k := range api.MaxPhrases {
		l = append(l, string([]byte{byte(255 - 2*k)}))
	}
	return l
}

// lists tells phrases that are looked for: none, one, beginnings and ends of one another, in several orders, the most.
func lists() [][]string {
	long := strings.Repeat("a", api.MaxPhrase)
	falling := rising(api.MaxPhrase)
	slices.Reverse(falling)
	return [][]string{
		nil,
		{"a"},
		{"\x00"},
		{"\xff\x00\xff", "\x00\xff", "\xff", "ż"},
		{"ab", "b"},
		{"b", "ab"},
		{"ab", "a"},
		{"ab", "a", "abc", "b"},
		{"a", "ab", "abc", "abcd"},
		{"abcd", "bcd", "cd", "d"},
		{"abcd", "bcx", "cy"},
		{"she", "he", "hers", "his", "e", "h", "sh"},
		{"abab", "ababab", "bab", "b", "aba"},
		{long},
		{long[1:] + "b", long, "a", "aab", "b"},
		rising(api.MaxPhrase),
		falling,
		singles(),
	}
}

func TestP1101EveryPlace(t *testing.T) {
	for _, l := range lists() {
		d := book(t, l...)
		whole := strings.Join(l, "")
		for _, b := range []string{"", "x", whole, whole + whole, strings.Join(l, "x") + "x", "ushers e", strings.Repeat("ab", 50), strings.Repeat("a", 2*api.MaxPhrase) + "b"} {
			holdsBytes(t, d, l, b)
		}
	}
}

// All bytes of up to seven of two letters, by all lists of up to two of seven short phrases.
func TestP1101SmallTexts(t *testing.T) {
	texts := []string{"a", "b", "ab", "ba", "aab", "aba", "abba"}
	for i, one := range texts {
		for k, other := range texts {
			l := []string{one, other}
			if i == k {
				l = l[:1]
			}
			d := book(t, l...)
			for size := range 8 {
				for m := range 1 << size {
					b := make([]byte, size)
					for n := range b {
						b[n] = "ab"[m>>n&1]
					}
					holdsBytes(t, d, l, string(b))
				}
			}
		}
	}
}

func TestP1101Example(t *testing.T) {
	holdsLongest(t, book(t, "ab", "a"), "abc", 0, 0, 2)
}

// By hand: of one place the longest first, whichever ids the phrases have.
func TestP1101ByHand(t *testing.T) {
	d := book(t, "ab", "a", "abc", "b")
	if got := hits.Starts(d, 3, scan.All(links.New(trie.New(d)), "abc")...); !same(got, [][]int{{2, 0, 1}, {3}, nil}) {
		t.Errorf("Starts: %d", got)
	}
	if got := hits.Lengths(d, "abcab"); !same(got, [][]int{{3, 2, 1}, {1}, nil, {2, 1}, {1}}) {
		t.Errorf("Lengths: %d", got)
	}
	for at, want := range [][2]int{{2, 3}, {3, 1}, {-1, 0}, {0, 2}, {3, 1}} {
		holdsLongest(t, d, "abcab", at, want[0], want[1])
	}
	holdsLongest(t, d, "ax", 0, 1, 1) // "ab" and "abc" begin so, too, but don't stand there
	holdsLongest(t, d, "xab", 0, -1, 0)
}

// In whichever order the hits are, and however often.
func TestP1101StartsHasEachOnce(t *testing.T) {
	d := book(t, "ab", "a", "abc", "b")
	given := []api.Hit{{End: 3, Id: 2}, {End: 2, Id: 0}, {End: 1, Id: 1}, {End: 2, Id: 3}}
	for turn := range given {
		l := append(slices.Clone(given[turn:]), given[:turn]...)
		backward := slices.Clone(l)
		slices.Reverse(backward)
		for _, x := range [][]api.Hit{l, backward, slices.Concat(l, l), slices.Concat(l, backward, l)} {
			if got := hits.Starts(d, 3, x...); !same(got, [][]int{{2, 0, 1}, {3}, nil}) {
				t.Errorf("Starts of %v: %d", x, got)
			}
		}
	}
}

// Starts knows no bytes: hits that no bytes have together are told all the same, each once. Which of as long ones goes first, the chapter leaves open.
func TestP1101StartsOfHitsAsLong(t *testing.T) {
	d := book(t, "b", "ab", "a", "c")
	got := hits.Starts(d, 2, api.Hit{End: 1, Id: 3}, api.Hit{End: 1, Id: 0}, api.Hit{End: 2, Id: 1}, api.Hit{End: 1, Id: 2}, api.Hit{End: 1, Id: 3})
	if len(got) != 2 || len(got[0]) != 4 || got[0][0] != 1 || len(got[1]) != 0 {
		t.Fatalf("Starts: %d", got)
	}
	slices.Sort(got[0])
	if !slices.Equal(got[0], []int{0, 1, 2, 3}) {
		t.Errorf("Starts, sorted: %d", got[0])
	}
}

// Of hits of all ends and ids near what there is just those are told that lie within.
func TestP1101StartsLeavesOut(t *testing.T) {
	l := []string{"ab", "a", "abc", strings.Repeat("x", api.MaxPhrase)}
	d := book(t, l...)
	ids := []int{math.MinInt, -api.Literals, -1, 0, 1, 2, 3, 4, 5, api.MaxPhrases, api.Literals, math.MaxInt}
	for _, n := range []int{0, 1, 2, 3, 39, 40, 41, api.MaxBlock} {
		ends := append(outside(n), math.MinInt+1, math.MinInt+2, math.MinInt+api.MaxPhrase, math.MaxInt-1, 0, 1, 2, 3, 4, 39, 40, 41, n-1)
		for _, end := range ends {
			for _, id := range ids {
				want := make([][]int, n)
				if id >= 0 && id < len(l) && end <= n && end >= 0 && end-len(l[id]) >= 0 {
					want[end-len(l[id])] = []int{id}
				}
				if got := hits.Starts(d, n, api.Hit{End: end, Id: id}); !same(got, want) {
					t.Errorf("Starts(%d, {%d, %d}): %d", n, end, id, got)
				}
			}
		}
	}
}

// A hit that is left out takes none with it.
func TestP1101StartsGoesOnBehindWrongHits(t *testing.T) {
	d := book(t, "ab", "b")
	got := hits.Starts(d, 2, api.Hit{End: 3, Id: 0}, api.Hit{End: 1, Id: 0}, api.Hit{End: 2, Id: 1}, api.Hit{End: 2, Id: -1}, api.Hit{End: 0, Id: 1}, api.Hit{End: 2, Id: 2}, api.Hit{End: 2, Id: 0})
	if !same(got, [][]int{{0}, {1}}) {
		t.Errorf("Starts: %d", got)
	}
}

func TestP1101StartsOfHowMany(t *testing.T) {
	d := book(t, "a")
	hit := api.Hit{End: 1, Id: 0}
	for _, n := range []int{math.MinInt, -api.MaxBlock, -1, api.MaxBlock + 1, 2 * api.MaxBlock, math.MaxInt} {
		if got := hits.Starts(d, n, hit); len(got) != 0 {
			t.Errorf("Starts(%d): %d lists", n, len(got))
		}
	}
	for _, n := range []int{0, 1, 2, api.MaxBlock - 1, api.MaxBlock} {
		got := hits.Starts(d, n, hit)
		if len(got) != n || n > 0 && !slices.Equal(got[0], []int{0}) {
			t.Errorf("Starts(%d): %d lists", n, len(got))
		}
		if got := hits.Starts(d, n); !same(got, make([][]int, n)) {
			t.Errorf("Starts(%d) without hits: %d", n, got)
		}
	}
}

// Lengths has a bound, Longest has none.
func TestP1101OfManyBytes(t *testing.T) {
	l := rising(api.MaxPhrase)
	d := book(t, l...)
	for _, count := range []int{api.MaxBlock - 1, api.MaxBlock, api.MaxBlock + 1, 2 * api.MaxBlock} {
		holdsBytes(t, d, l, strings.Repeat("a", count))
	}
	far := strings.Repeat("x", 100*api.MaxBlock)
	holdsLongest(t, d, far+"aa", len(far), 1, 2)
	holdsLongest(t, d, far+"aa", len(far)-1, -1, 0)
}

func TestP1101WithoutPhrases(t *testing.T) {
	for _, d := range []*dict.Dict{nil, new(dict.Dict), book(t)} {
		for _, b := range []string{"", "ab", strings.Repeat("x", api.MaxBlock), strings.Repeat("x", api.MaxBlock+1)} {
			holdsBytes(t, d, nil, b)
		}
		if got := hits.Starts(d, 2, api.Hit{End: 1, Id: 0}, api.Hit{End: 0, Id: 0}); !same(got, make([][]int, 2)) {
			t.Errorf("Starts without phrases: %d", got)
		}
	}
}

func TestP1101HitsAreNotWrittenInto(t *testing.T) {
	d := book(t, "ab", "a", "abc", "b")
	given := []api.Hit{{End: 1, Id: 1}, {End: 9, Id: 9}, {End: 2, Id: 0}, {End: 3, Id: 2}, {End: 2, Id: 0}}
	before := slices.Clone(given)
	hits.Starts(d, 3, given...)
	if !slices.Equal(given, before) {
		t.Errorf("Starts wrote into its hits: %v", given)
	}
}

func TestP1101AnswersAreNewEachTime(t *testing.T) {
	d := book(t, "ab", "a", "b")
	found := scan.All(links.New(trie.New(d)), "ab")
	for range 2 {
		starts, lengths := hits.Starts(d, 2, found...), hits.Lengths(d, "ab")
		if !same(starts, [][]int{{0, 1}, {2}}) || !same(lengths, [][]int{{2, 1}, {1}}) {
			t.Fatalf("changed answers: %d, %d", starts, lengths)
		}
		for _, lists := range [][][]int{starts, lengths} {
			first := append(lists[0][:0], 99, 99)
			_ = append(first, 7, 7)
			if lists[1][0] == 7 || lists[1][0] == 99 {
				t.Errorf("two lists share memory: %d", lists)
			}
			lists[1] = first
		}
	}
}
