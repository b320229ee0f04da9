package links_test

import (
	"math"
	"slices"
	"strings"
	"testing"

	"lexiphane/api"
	"lexiphane/dict"
	"lexiphane/links"
	"lexiphane/trie"
)

// tree tells the tree of phrases that dict must take.
func tree(t *testing.T, l ...string) *trie.Trie {
	t.Helper()
	d, err := dict.New(l...)
	if err != nil {
		t.Fatalf("dict.New(%.60q): %v", l, err)
	}
	return trie.New(d)
}

// ends tells the node of the longest end of a node's text that is a beginning, shorter than it, and (if phrases) a phrase; 0: none.
func ends(x *trie.Trie, node int, phrases bool) int {
	text := x.Text(node)
	for k := 1; k < len(text); k++ {
		for other := range x.Len() {
			if x.Text(other) == text[k:] && (!phrases || x.Word(other) != -1) {
				return other
			}
		}
	}
	return 0
}

// rising tells all nodes of a tree, depth by depth.
func rising(x *trie.Trie) []int {
	var order []int
	for depth := range api.MaxPhrase + 1 {
		for node := range x.Len() {
			if x.Depth(node) == depth {
				order = append(order, node)
			}
		}
	}
	return order
}

// outside tells numbers that are no node of a tree of so many.
func outside(count int) []int {
	return []int{-1, -2, -count, -count - 1, count, count + 1, count + api.Literals, math.MinInt, math.MaxInt}
}

// holds asks every call of a tree's links about every node, and about others.
func holds(t *testing.T, l *links.Links, x *trie.Trie) {
	t.Helper()
	if l.Trie() != x {
		t.Errorf("Trie() is another tree than %q", all(x))
	}
	if got, want := l.Order(), rising(x); !slices.Equal(got, want) {
		t.Errorf("Order() of %.60q: %d, not %d", all(x), got, want)
	}
	for n := range x.Len() {
		if got, want := l.Fail(n), ends(x, n, false); got != want {
			t.Errorf("Fail(%d), of %q in %.60q: %d, not %d", n, x.Text(n), all(x), got, want)
		}
		if got, want := l.Out(n), ends(x, n, true); got != want {
			t.Errorf("Out(%d), of %q in %.60q: %d, not %d", n, x.Text(n), all(x), got, want)
		}
	}
	for _, n := range outside(x.Len()) {
		if l.Fail(n) != 0 || l.Out(n) != 0 {
			t.Errorf("node %d is none of %.60q: %d, %d", n, all(x), l.Fail(n), l.Out(n))
		}
	}
}

// all tells the texts of all nodes.
func all(x *trie.Trie) []string {
	var texts []string
	for n := range x.Len() {
		texts = append(texts, x.Text(n))
	}
	return texts
}

// pieces tells up to count texts of size bytes whose ends are beginnings of one another in many ways: all from one text of two letters.
func pieces(count, size int) []string {
	text := "a"
	other := "ab"
	for len(other) < 2*count*size {
		text, other = other, other+text
	}
	var l []string
	for k := 0; len(l) < count && k+size <= len(other); k++ {
		if s := other[k : k+size]; !slices.Contains(l, s) {
			l = append(l, s)
		}
	}
	return l
}

// lists tells phrases of whose tree links are asked: none, one, ends of one another, in several orders, the most.
func lists() [][]string {
	long := strings.Repeat("a", api.MaxPhrase)
	return [][]string{
		nil,
		{"a"},
		{"\x00"},
		{"\xff\x00\xff", "\x00\xff", "\xff", "ż"},
		{"ab", "b"},
		{"b", "ab"},
		{"abc", "bc", "c"},
		{"abc", "c"},
		{"abc", "bd", "c"},
		{"abcd", "bcx", "cd"},
		{"abcd", "bcd", "cd", "d"},
		{"d", "cd", "bcd", "abcd"},
		{"she", "he", "hers", "his", "e"},
		{"aaaa", "a", "aa"},
		{"abab", "ababab", "bab", "b"},
		{"abcabd", "bcabx", "cabd", "ab"},
		{"aab", "abaa", "baab"},
		{"abxabyabxabz", "xabyabxabz", "byabxa", "z", "abxaba"},
		{long},
		{long[1:] + "b", long, "a", "aab", "b"},
		pieces(api.MaxBytes/api.MaxPhrase, api.MaxPhrase),
		pieces(11, 10),
	}
}

func TestP801EveryNode(t *testing.T) {
	for _, l := range lists() {
		x := tree(t, l...)
		holds(t, links.New(x), x)
	}
}

// All lists of up to three of eleven short phrases of two letters, in every order.
func TestP801SmallTrees(t *testing.T) {
	texts := []string{"a", "b", "aa", "ab", "ba", "bb", "aab", "aba", "bab", "abba", "baab"}
	var more func(l []string)
	more = func(l []string) {
		x := tree(t, l...)
		holds(t, links.New(x), x)
		if len(l) == 3 {
			return
		}
		for _, s := range texts {
			if !slices.Contains(l, s) {
				more(append(slices.Clone(l), s))
			}
		}
	}
	more(nil)
}

func TestP801Example(t *testing.T) {
	l := links.New(tree(t, "ab", "b")) // 0: "", 1: "a", 2: "ab", 3: "b"
	if l.Fail(2) != 3 || l.Out(2) != 3 {
		t.Errorf("of ab: %d, %d, not b", l.Fail(2), l.Out(2))
	}
}

// A link goes to a beginning that is shorter than the node, be it a phrase or not.
func TestP801FailIsShorterAndNeedsNoPhrase(t *testing.T) {
	l := links.New(tree(t, "abc", "bd")) // 1: "a", 2: "ab", 3: "abc", 4: "b", 5: "bd"
	if l.Fail(2) != 4 || l.Out(2) != 0 {
		t.Errorf("of ab: %d, %d, not b, which is no phrase", l.Fail(2), l.Out(2))
	}
	if l.Fail(3) != 0 || l.Fail(5) != 0 || l.Fail(4) != 0 {
		t.Errorf("of abc, bd, b: %d, %d, %d, not the root", l.Fail(3), l.Fail(5), l.Fail(4))
	}
}

// Out goes past beginnings that are no phrases, and is never the node itself.
func TestP801OutIsTheFirstPhrase(t *testing.T) {
	l := links.New(tree(t, "xabc", "abcz", "bcz", "c")) // 4: "xabc", 7: "abc", 8: "abcz", 10: "bc", 11: "bcz", 12: "c"
	if l.Fail(4) != 7 || l.Fail(7) != 10 || l.Fail(10) != 12 {
		t.Errorf("Fail of xabc, abc, bc: %d, %d, %d", l.Fail(4), l.Fail(7), l.Fail(10))
	}
	if l.Out(4) != 12 || l.Out(7) != 12 || l.Out(10) != 12 {
		t.Errorf("Out of xabc, abc, bc: %d, %d, %d, not c", l.Out(4), l.Out(7), l.Out(10))
	}
	if l.Out(8) != 11 || l.Out(11) != 0 || l.Out(12) != 0 {
		t.Errorf("Out of abcz, bcz, c: %d, %d, %d", l.Out(8), l.Out(11), l.Out(12))
	}
}

func TestP801OrderByDepthThenByNumber(t *testing.T) {
	l := links.New(tree(t, "zab", "zb", "a", "zabc", "b"))
	if got, want := l.Order(), []int{0, 1, 5, 7, 2, 4, 3, 6}; !slices.Equal(got, want) {
		t.Errorf("Order(): %d, not %d", got, want)
	}
}

func TestP801TheRoot(t *testing.T) {
	for _, phrases := range lists() {
		l := links.New(tree(t, phrases...))
		if l.Fail(0) != 0 || l.Out(0) != 0 || l.Order()[0] != 0 {
			t.Errorf("the root of %.60q: %d, %d, %d", phrases, l.Fail(0), l.Out(0), l.Order()[0])
		}
	}
}

func TestP801OfNoPhrases(t *testing.T) {
	x := tree(t)
	l := links.New(x)
	if l == nil {
		t.Fatal("New of a root alone: nil")
	}
	holds(t, l, x)
	if !slices.Equal(l.Order(), []int{0}) {
		t.Errorf("Order() of a root alone: %d", l.Order())
	}
}

// A zero tree has no nodes, not even a root.
func TestP801OfATreeWithoutNodes(t *testing.T) {
	x := new(trie.Trie)
	l := links.New(x)
	if l == nil || l.Trie() != x {
		t.Fatal("New of a tree without nodes: nil, or of another tree")
	}
	if l.Fail(0) != 0 || l.Out(0) != 0 || len(l.Order()) != 0 {
		t.Errorf("of a tree without nodes: %d, %d, %d", l.Fail(0), l.Out(0), l.Order())
	}
}

func TestP801OfNilIsNil(t *testing.T) {
	if l := links.New(nil); l != nil {
		t.Errorf("New(nil): %v", l)
	}
	for _, l := range []*links.Links{nil, new(links.Links)} {
		for _, n := range append(outside(1), 0) {
			if l.Fail(n) != 0 || l.Out(n) != 0 {
				t.Errorf("node %d of no links: %d, %d", n, l.Fail(n), l.Out(n))
			}
		}
		if l.Order() != nil || l.Trie() != nil {
			t.Errorf("of no links: %d, %v", l.Order(), l.Trie())
		}
	}
}

func TestP801OrderIsNewEachTime(t *testing.T) {
	x := tree(t, "ab", "b", "c")
	l := links.New(x)
	one, other := l.Order(), l.Order()
	one[0], one[4] = 99, -1
	_ = append(one[:1], 7)
	if !slices.Equal(other, []int{0, 1, 3, 4, 2}) {
		t.Errorf("two answers share memory: %d", other)
	}
	holds(t, l, x)
}

func TestP801LinksHangOnTheirOwnTree(t *testing.T) {
	x, y := tree(t, "ab", "b"), tree(t, "b", "abc", "bc", "c")
	texts := all(x)
	l, m, n := links.New(x), links.New(y), links.New(x)
	holds(t, m, y)
	holds(t, l, x)
	holds(t, n, x)
	if !slices.Equal(all(x), texts) {
		t.Errorf("New changed its tree: %q", all(x))
	}
}
