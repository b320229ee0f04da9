package scan_test

import (
	"math"
	"slices"
	"strings"
	"testing"

	"lexiphane/api"
	"lexiphane/dict"
	"lexiphane/links"
	"lexiphane/scan"
	"lexiphane/trie"
)

// net tells the links of phrases that dict must take.
func net(t *testing.T, l ...string) *links.Links {
	t.Helper()
	d, err := dict.New(l...)
	if err != nil {
		t.Fatalf("dict.New(%.60q): %v", l, err)
	}
	return links.New(trie.New(d))
}

// ends tells the hits of phrases in b, by a plain reckoning: at each place every phrase, the longest first.
func ends(l []string, b string) []api.Hit {
	byLength := make([]int, len(l)) // ids; phrases that end at one place have different lengths
	for id := range l {
		byLength[id] = id
	}
	slices.SortFunc(byLength, func(x, y int) int { return len(l[y]) - len(l[x]) })
	var hits []api.Hit
	for end := 1; end <= len(b); end++ {
		for _, id := range byLength {
			if strings.HasSuffix(b[:end], l[id]) {
				hits = append(hits, api.Hit{End: end, Id: id})
			}
		}
	}
	return hits
}

// nodes tells the number of each beginning.
func nodes(x *trie.Trie) map[string]int {
	number := map[string]int{}
	for n := range x.Len() {
		number[x.Text(n)] = n
	}
	return number
}

// longestEnd tells the node of the longest end of a text that is a beginning; the empty one always is.
func longestEnd(number map[string]int, text string) int {
	for k := range len(text) {
		if n, ok := number[text[k:]]; ok {
			return n
		}
	}
	return 0
}

// outside tells numbers that are no node of a tree of so many.
func outside(count int) []int {
	return []int{-1, -2, -count, -count - 1, count, count + 1, count + api.Literals, math.MinInt, math.MaxInt}
}

// holdsSteps asks Step from every node, and from numbers that are none, by every byte.
func holdsSteps(t *testing.T, x *links.Links) {
	t.Helper()
	tree := x.Trie()
	number := nodes(tree)
	for c := range 256 {
		for n := range tree.Len() {
			text := tree.Text(n) + string([]byte{byte(c)})
			if got, want := scan.Step(x, n, byte(c)), longestEnd(number, text); got != want {
				t.Errorf("Step(%d, %d), to %.60q: %d, not %d", n, c, text, got, want)
			}
		}
		for _, n := range outside(tree.Len()) {
			if got := scan.Step(x, n, byte(c)); got != 0 {
				t.Errorf("Step(%d, %d), of a node that is none: %d", n, c, got)
			}
		}
	}
}

// holdsScan scans b at once, byte by byte, and in pieces, and asks after each piece where the scanner is.
func holdsScan(t *testing.T, x *links.Links, l []string, b string) {
	t.Helper()
	want := ends(l, b)
	if got := scan.All(x, b); !slices.Equal(got, want) {
		t.Errorf("All(%.60q) of %.60q: %v, not %v", b, l, got, want)
	}
	number := nodes(x.Trie())
	s := scan.New(x)
	for _, size := range []int{len(b), 1, 2, 3, 7} {
		var got []api.Hit
		for from := 0; from < len(b); from += size {
			to := min(from+size, len(b))
			got = append(got, s.Feed(b[from:to])...)
			if s.At() != to || s.Node() != longestEnd(number, b[:to]) {
				t.Errorf("after %.60q of %.60q: At() %d, Node() %d", b[:to], l, s.At(), s.Node())
			}
		}
		if !slices.Equal(got, want) {
			t.Errorf("%.60q of %.60q, by pieces of %d: %v, not %v", b, l, size, got, want)
		}
		s.Reset()
	}
}

// pieces tells up to count texts of size bytes whose ends are beginnings of one another in many ways: all from one text of two letters.
func pieces(count, size int) []string {
	text, other := "a", "ab"
	for len(other) < 2*count*size {
		text, other = other, other+text
	}
	var l []string
	for k := 0; len(l) < count && k+size <= len(other); k++ {
		if s := other[k : k+size]; !slices.Contains(l, s) {
			l = append(l, s)
		}
	}
	return l
}

// rising tells the texts of 1 to count bytes a, the shortest first.
func rising(count int) []string {
	var l []string
	for k := range count {
		l = append(l, strings.Repeat("a", k+1))
	}
	return l
}

// lists tells phrases by which is scanned: none, one, ends of one another, in several orders, the most.
func lists() [][]string {
	long := strings.Repeat("a", api.MaxPhrase)
	falling := rising(api.MaxPhrase)
	slices.Reverse(falling)
	return [][]string{
		nil,
		{"a"},
		{"\x00"},
		{"\xff\x00\xff", "\x00\xff", "\xff", "ż"},
		{"ab", "b"},
		{"b", "ab"},
		{"ab", "a"},
		{"abc", "bd", "c"},
		{"abcd", "bcx", "cd"},
		{"abcd", "bcd", "cd", "d"},
		{"d", "cd", "bcd", "abcd"},
		{"she", "he", "hers", "his", "e"},
		{"xabc", "abcz", "bcz", "c"},
		{"abab", "ababab", "bab", "b"},
		{"abxabyabxabz", "xabyabxabz", "byabxa", "z", "abxaba"},
		{long},
		{long[1:] + "b", long, "a", "aab", "b"},
		rising(api.MaxPhrase),
		falling,
		pieces(api.MaxBytes/api.MaxPhrase, api.MaxPhrase),
		pieces(11, 10),
	}
}

func TestP901EveryStep(t *testing.T) {
	for _, l := range lists() {
		holdsSteps(t, net(t, l...))
	}
}

func TestP901EveryHit(t *testing.T) {
	for _, l := range lists() {
		x := net(t, l...)
		whole := strings.Join(l, "")
		for _, b := range []string{"", "x", whole, whole + whole, strings.Join(l, "x") + "x", "ushers e", strings.Repeat("ab", 50), strings.Repeat("a", 2*api.MaxPhrase) + "b"} {
			holdsScan(t, x, l, b)
		}
	}
}

// All bytes of up to eight of two letters, by all lists of up to two of seven short phrases.
func TestP901SmallScans(t *testing.T) {
	texts := []string{"a", "b", "ab", "ba", "aab", "aba", "abba"}
	var scans []string
	for size := range 9 {
		for k := range 1 << size {
			b := make([]byte, size)
			for i := range b {
				b[i] = "ab"[k>>i&1]
			}
			scans = append(scans, string(b))
		}
	}
	for i, one := range texts {
		for k, other := range texts {
			l := []string{one, other}
			if i == k {
				l = l[:1]
			}
			x := net(t, l...)
			for _, b := range scans {
				if got, want := scan.All(x, b), ends(l, b); !slices.Equal(got, want) {
					t.Errorf("All(%q) of %q: %v, not %v", b, l, got, want)
				}
			}
		}
	}
}

func TestP901Example(t *testing.T) {
	s := scan.New(net(t, "ab", "b"))
	if got := s.Feed("ab"); !slices.Equal(got, []api.Hit{{End: 2, Id: 0}, {End: 2, Id: 1}}) {
		t.Errorf("Feed(%q): %v", "ab", got)
	}
}

// At one place the longest goes first, whichever ids the phrases have.
func TestP901TheLongestFirst(t *testing.T) {
	want := []int{2, 0, 1}
	var got []int
	for _, h := range scan.All(net(t, "bc", "c", "abc"), "abc") {
		got = append(got, h.Id)
	}
	if !slices.Equal(got, want) {
		t.Errorf("ids at the end of abc: %d, not %d", got, want)
	}
}

// A step goes past ends that are no beginnings, to any that is one, phrase or not.
func TestP901StepGoesToTheLongestEnd(t *testing.T) {
	x := net(t, "abcd", "bcx", "cy") // 3: "abc", 4: "abcd", 6: "bc", 7: "bcx", 8: "c", 9: "cy"
	for _, c := range []struct {
		node int
		by   byte
		want int
	}{{3, 'd', 4}, {3, 'x', 7}, {3, 'y', 9}, {3, 'c', 8}, {3, 'a', 1}, {3, 'z', 0}, {4, 'x', 0}, {0, 'b', 5}, {0, 'd', 0}} {
		if got := scan.Step(x, c.node, c.by); got != c.want {
			t.Errorf("Step(%d, %q): %d, not %d", c.node, c.by, got, c.want)
		}
	}
}

// What was fed counts on: a phrase may lie across pieces, and End is from the beginning of all.
func TestP901PiecesGoOn(t *testing.T) {
	s := scan.New(net(t, "abc", "c"))
	if got := s.Feed("xa"); len(got) != 0 || s.At() != 2 || s.Node() != 1 {
		t.Errorf("xa: %v, %d, %d", got, s.At(), s.Node())
	}
	if got := s.Feed(""); len(got) != 0 || s.At() != 2 || s.Node() != 1 {
		t.Errorf("nothing: %v, %d, %d", got, s.At(), s.Node())
	}
	if got := s.Feed("bc"); !slices.Equal(got, []api.Hit{{End: 4, Id: 0}, {End: 4, Id: 1}}) || s.At() != 4 || s.Node() != 3 {
		t.Errorf("bc: %v, %d, %d", got, s.At(), s.Node())
	}
}

func TestP901NewIsAtTheRoot(t *testing.T) {
	for _, l := range lists() {
		s := scan.New(net(t, l...))
		if s == nil || s.Node() != 0 || s.At() != 0 {
			t.Errorf("New of %.60q: %v, %d, %d", l, s, s.Node(), s.At())
		}
	}
}

func TestP901ResetIsAsNew(t *testing.T) {
	s := scan.New(net(t, "ab", "b"))
	s.Feed("xxa") // a scanner that went on would find ab
	s.Reset()
	if s.Node() != 0 || s.At() != 0 {
		t.Errorf("Reset: %d, %d", s.Node(), s.At())
	}
	if got := s.Feed("b"); !slices.Equal(got, []api.Hit{{End: 1, Id: 1}}) {
		t.Errorf("b behind Reset: %v", got)
	}
}

func TestP901AllIsOfANewOne(t *testing.T) {
	x := net(t, "ab", "b")
	s := scan.New(x)
	s.Feed("a")
	if got := scan.All(x, "b"); !slices.Equal(got, []api.Hit{{End: 1, Id: 1}}) {
		t.Errorf("All beside a scanner: %v", got)
	}
	if s.At() != 1 || s.Node() != 1 {
		t.Errorf("All moved a scanner: %d, %d", s.At(), s.Node())
	}
}

func TestP901OfNil(t *testing.T) {
	if s := scan.New(nil); s != nil {
		t.Errorf("New(nil): %v", s)
	}
	var s *scan.Scanner
	for range 2 {
		if len(s.Feed("ab")) != 0 || s.Node() != 0 || s.At() != 0 {
			t.Errorf("a nil one: %v, %d, %d", s.Feed("ab"), s.Node(), s.At())
		}
		s.Reset()
	}
	if got := scan.All(nil, "ab"); len(got) != 0 {
		t.Errorf("All of nil: %v", got)
	}
	for _, n := range append(outside(1), 0) {
		if got := scan.Step(nil, n, 'a'); got != 0 {
			t.Errorf("Step(nil, %d): %d", n, got)
		}
	}
}

// Links that have no tree, or a tree without nodes, and a zero scanner have no phrases; bytes count all the same.
func TestP901WithoutNodes(t *testing.T) {
	for _, x := range []*links.Links{new(links.Links), links.New(new(trie.Trie))} {
		s := scan.New(x)
		if s == nil || len(s.Feed("ab")) != 0 || s.Node() != 0 || s.At() != 2 {
			t.Errorf("without nodes: %v, %d, %d", s, s.Node(), s.At())
		}
		if got := scan.Step(x, 0, 'a'); got != 0 {
			t.Errorf("Step without nodes: %d", got)
		}
	}
	zero := new(scan.Scanner)
	if len(zero.Feed("ab")) != 0 || zero.Node() != 0 || zero.At() != 2 {
		t.Errorf("a zero scanner: %d, %d", zero.Node(), zero.At())
	}
}

func TestP901HitsAreNewEachTime(t *testing.T) {
	x := net(t, "ab", "b", "a")
	s := scan.New(x)
	want := []api.Hit{{End: 1, Id: 2}, {End: 2, Id: 0}, {End: 2, Id: 1}}
	one := s.Feed("ab")
	s.Reset()
	other := s.Feed("ab")
	one[0], one[2] = api.Hit{End: 99, Id: 99}, api.Hit{}
	_ = append(one[:1], api.Hit{End: 7, Id: 7})
	if !slices.Equal(other, want) || !slices.Equal(scan.All(x, "ab"), want) {
		t.Errorf("two answers share memory: %v", other)
	}
}

func TestP901ScannersHangOnTheirOwnBytes(t *testing.T) {
	x, y := net(t, "ab", "b"), net(t, "b", "ba", "ab")
	one, two, three := scan.New(x), scan.New(x), scan.New(y)
	one.Feed("xa")
	two.Feed("b")
	three.Feed("b")
	if got := two.Feed("b"); !slices.Equal(got, []api.Hit{{End: 2, Id: 1}}) {
		t.Errorf("the second: %v", got)
	}
	if got := three.Feed("a"); !slices.Equal(got, []api.Hit{{End: 2, Id: 1}}) {
		t.Errorf("the third: %v", got)
	}
	if got := one.Feed("b"); !slices.Equal(got, []api.Hit{{End: 3, Id: 0}, {End: 3, Id: 1}}) {
		t.Errorf("the first: %v", got)
	}
}
