package dense_test

import (
	"math"
	"slices"
	"strings"
	"testing"

	"lexiphane/api"
	"lexiphane/dense"
	"lexiphane/dict"
	"lexiphane/links"
	"lexiphane/scan"
	"lexiphane/trie"
)

// net tells the links of phrases that dict must take.
func net(t *testing.T, l ...string) *links.Links {
	t.Helper()
	d, err := dict.New(l...)
	if err != nil {
		t.Fatalf("dict.New(%.60q): %v", l, err)
	}
	return links.New(trie.New(d))
}

// nodes tells the number of each beginning.
func nodes(x *trie.Trie) map[string]int {
	number := map[string]int{}
	for n := range x.Len() {
		number[x.Text(n)] = n
	}
	return number
}

// steps tells the steps of a node by all bytes, by a plain reckoning: each to the longest end of its text and the byte that is a beginning.
func steps(number map[string]int, text string) []int {
	row := make([]int, 256)
	for c := range row {
		long := text + string([]byte{byte(c)})
		for k := range len(long) {
			if n, ok := number[long[k:]]; ok {
				row[c] = n
				break
			}
		}
	}
	return row
}

// others tells the bytes by which a row leads elsewhere than the root's, rising.
func others(row, root []int) []byte {
	var differ []byte
	for c := range 256 {
		if row[c] != root[c] {
			differ = append(differ, byte(c))
		}
	}
	return differ
}

// outside tells numbers that are no node of a table of so many.
func outside(count int) []int {
	return []int{-1, -2, -count, -count - 1, count, count + 1, count + api.Literals, math.MinInt, math.MaxInt}
}

// rising tells the texts of 1 to count bytes a, the shortest first.
func rising(count int) []string {
	var l []string
	for k := range count {
		l = append(l, strings.Repeat("a", k+1))
	}
	return l
}

// singles tells the most phrases of one byte each, the last bytes among them.
func singles() []string {
	var l []string
	for k := range api.MaxPhrases {
		l = append(l, string([]byte{byte(255 - 2*k)}))
	}
	return l
}

// most tells phrases that have as many nodes as may be: all bytes, no beginning twice.
func most() []string {
	var l []string
	for k := range api.MaxBytes / api.MaxPhrase {
		l = append(l, string(rune('A'+k))+strings.Repeat("ab", api.MaxPhrase/2-1)+string(rune('A'+(k+1)%25)))
	}
	return l
}

// lists tells phrases of which tables are made: none, one, ends of one another, in several orders, the most.
func lists() [][]string {
	long := strings.Repeat("a", api.MaxPhrase)
	falling := rising(api.MaxPhrase)
	slices.Reverse(falling)
	return [][]string{
		nil,
		{"a"},
		{"\x00"},
		{"\xff\x00\xff", "\x00\xff", "\xff", "ż"},
		{"ab", "b"},
		{"b", "ab"},
		{"ab", "a"},
		{"abcd", "bcx", "cy"},
		{"abcd", "bcd", "cd", "d"},
		{"d", "cd", "bcd", "abcd"},
		{"she", "he", "hers", "his", "e"},
		{"xabc", "abcz", "bcz", "c"},
		{"abab", "ababab", "bab", "b"},
		{"abxabyabxabz", "xabyabxabz", "byabxa", "z", "abxaba"},
		{long[1:] + "b", long, "a", "aab", "b"},
		rising(api.MaxPhrase),
		falling,
		singles(),
		most(),
	}
}

// holdsNode asks all that a table tells of a node.
func holdsNode(t *testing.T, y *dense.Table, node int, row, root []int) {
	t.Helper()
	if got := y.Row(node); !slices.Equal(got, row) {
		t.Errorf("Row(%d): %d, not %d", node, got, row)
	}
	if got, want := y.Sparse(node), others(row, root); !slices.Equal(got, want) {
		t.Errorf("Sparse(%d): %q, not %q", node, got, want)
	}
	for c := range 256 {
		if got := y.Go(node, byte(c)); got != row[c] {
			t.Errorf("Go(%d, %d): %d, not %d", node, c, got, row[c])
		}
	}
}

func TestP1001EveryStep(t *testing.T) {
	for _, l := range lists() {
		x := net(t, l...)
		y := dense.New(x)
		number := nodes(x.Trie())
		for text, n := range number {
			holdsNode(t, y, n, steps(number, text), steps(number, ""))
		}
		if y.Len() != len(number) || y.Size() != 256*len(number) {
			t.Errorf("of %.60q: Len() %d, Size() %d, not %d nodes", l, y.Len(), y.Size(), len(number))
		}
	}
}

func TestP1001GoIsScansStep(t *testing.T) {
	for _, l := range lists() {
		x := net(t, l...)
		y := dense.New(x)
		for _, n := range append(outside(y.Len()), 0, 1, y.Len()/2, y.Len()-1) {
			for c := range 256 {
				if got, want := y.Go(n, byte(c)), scan.Step(x, n, byte(c)); got != want {
					t.Errorf("of %.60q: Go(%d, %d): %d, not %d", l, n, c, got, want)
				}
			}
		}
	}
}

func TestP1001OfNodesThatAreNone(t *testing.T) {
	for _, l := range lists() {
		y := dense.New(net(t, l...))
		for _, n := range outside(y.Len()) {
			if len(y.Row(n)) != 0 || len(y.Sparse(n)) != 0 {
				t.Errorf("of %.60q, node %d: %d, %q", l, n, y.Row(n), y.Sparse(n))
			}
			for c := range 256 {
				if got := y.Go(n, byte(c)); got != 0 {
					t.Errorf("of %.60q: Go(%d, %d): %d", l, n, c, got)
				}
			}
		}
	}
}

func TestP1001HitsAreScansAll(t *testing.T) {
	for _, l := range lists() {
		x := net(t, l...)
		y := dense.New(x)
		whole := strings.Join(l, "")
		for _, b := range []string{"", "x", whole, whole + whole, strings.Join(l, "x") + "x", "ushers e", strings.Repeat("ab", 50), strings.Repeat("a", 2*api.MaxPhrase) + "b"} {
			if got, want := y.Hits(b), scan.All(x, b); !slices.Equal(got, want) {
				t.Errorf("Hits(%.60q) of %.60q: %v, not %v", b, l, got, want)
			}
		}
	}
}

// Hits are of the bytes of one call, the longest first at each place.
func TestP1001HitsOfOneCall(t *testing.T) {
	y := dense.New(net(t, "b", "ab", "xab"))
	want := []api.Hit{{End: 3, Id: 2}, {End: 3, Id: 1}, {End: 3, Id: 0}, {End: 4, Id: 0}}
	for range 2 {
		if got := y.Hits("xabb"); !slices.Equal(got, want) {
			t.Errorf("Hits(%q): %v, not %v", "xabb", got, want)
		}
		if got := y.Hits("xa"); len(got) != 0 {
			t.Errorf("Hits(%q): %v", "xa", got)
		}
	}
}

func TestP1001Example(t *testing.T) {
	y := dense.New(net(t, "ab", "b"))
	for c := range 256 {
		if got := y.Go(0, byte(c)); c != 'a' && c != 'b' && got != 0 {
			t.Errorf("Go(0, %d), by which there is no son: %d", c, got)
		}
	}
}

// Of abc, the ends bc and c are beginnings, too, that have sons of their own; by a all nodes lead to the same one as the root.
func TestP1001ByHand(t *testing.T) {
	y := dense.New(net(t, "abcd", "bcx", "cy")) // 1: "a", .. 4: "abcd", 5: "b", 6: "bc", 7: "bcx", 8: "c", 9: "cy"
	for n, want := range []string{"", "b", "c", "dxy", "", "c", "xy", "", "y", ""} {
		if got := string(y.Sparse(n)); got != want {
			t.Errorf("Sparse(%d): %q, not %q", n, got, want)
		}
	}
	for _, c := range []struct {
		node int
		by   byte
		want int
	}{{3, 'd', 4}, {3, 'x', 7}, {3, 'y', 9}, {3, 'c', 8}, {3, 'a', 1}, {3, 'z', 0}, {4, 'x', 0}, {0, 'b', 5}, {0, 'd', 0}} {
		if got := y.Go(c.node, c.by); got != c.want || y.Row(c.node)[c.by] != c.want {
			t.Errorf("Go(%d, %q): %d, not %d", c.node, c.by, got, c.want)
		}
	}
}

func TestP1001SparseRises(t *testing.T) {
	y := dense.New(net(t, "a\xff", "az", "aa", "a\x00", "a\x80", "z\xff", "z\x00z"))
	if got := string(y.Sparse(1)); got != "\x00az\x80\xff" { // the root has sons by a and z, too, but they are other nodes
		t.Errorf("Sparse of a: %q", got)
	}
}

func TestP1001OfNil(t *testing.T) {
	if y := dense.New(nil); y != nil {
		t.Errorf("New(nil): %v", y)
	}
	var y *dense.Table
	if y.Len() != 0 || y.Size() != 0 || len(y.Hits("ab")) != 0 {
		t.Errorf("a nil one: %d, %d, %v", y.Len(), y.Size(), y.Hits("ab"))
	}
	holdsNone(t, y)
}

// holdsNone asks a table that has no nodes.
func holdsNone(t *testing.T, y *dense.Table) {
	t.Helper()
	for _, n := range append(outside(1), 0) {
		if y.Go(n, 'a') != 0 || len(y.Row(n)) != 0 || len(y.Sparse(n)) != 0 {
			t.Errorf("node %d: %d, %d, %q", n, y.Go(n, 'a'), y.Row(n), y.Sparse(n))
		}
	}
}

// Links that have no tree, or a tree without nodes, and a zero table have no steps and no phrases.
func TestP1001WithoutNodes(t *testing.T) {
	for _, y := range []*dense.Table{dense.New(new(links.Links)), dense.New(links.New(new(trie.Trie))), new(dense.Table)} {
		if y == nil || y.Len() != 0 || y.Size() != 0 || len(y.Hits("ab")) != 0 {
			t.Fatalf("without nodes: %v", y)
		}
		holdsNone(t, y)
	}
}

// A dictionary without phrases has the root alone, and all steps lead to it.
func TestP1001WithoutPhrases(t *testing.T) {
	y := dense.New(net(t))
	if y.Len() != 1 || y.Size() != 256 || len(y.Hits("ab")) != 0 {
		t.Errorf("without phrases: %d, %d, %v", y.Len(), y.Size(), y.Hits("ab"))
	}
	holdsNode(t, y, 0, make([]int, 256), make([]int, 256))
}

func TestP1001AnswersAreNewEachTime(t *testing.T) {
	y := dense.New(net(t, "ab", "b", "ba"))
	row, sparse, hits := y.Row(1), y.Sparse(1), y.Hits("ab")
	for k := range row {
		row[k] = 99
	}
	sparse[0] = 'z'
	hits[0] = api.Hit{End: 99, Id: 99}
	_, _, _ = append(row, 7), append(sparse, 7), append(hits, api.Hit{})
	if y.Go(1, 'b') != 2 || y.Row(1)['b'] != 2 || y.Row(2)['a'] != 4 {
		t.Errorf("a changed row: %d", y.Row(1))
	}
	if got := string(y.Sparse(1)); got != "b" {
		t.Errorf("a changed list of bytes: %q", got)
	}
	if got := y.Hits("ab"); !slices.Equal(got, []api.Hit{{End: 2, Id: 0}, {End: 2, Id: 1}}) {
		t.Errorf("changed hits: %v", got)
	}
}

func TestP1001TablesHangOnTheirOwnLinks(t *testing.T) {
	one := dense.New(net(t, "ab"))
	other := dense.New(net(t, "b", "xb"))
	if one.Len() != 3 || other.Len() != 4 || one.Go(1, 'b') != 2 || other.Go(1, 'b') != 1 || other.Go(2, 'b') != 3 {
		t.Errorf("two tables: %d, %d", one.Len(), other.Len())
	}
}
