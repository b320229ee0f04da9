package trie_test

import (
	"math"
	"slices"
	"strings"
	"testing"

	"lexiphane/api"
	"lexiphane/dict"
	"lexiphane/trie"
)

// made tells a dictionary of phrases that dict must take.
func made(t *testing.T, l ...string) *dict.Dict {
	t.Helper()
	d, err := dict.New(l...)
	if err != nil {
		t.Fatalf("dict.New(%.60q): %v", l, err)
	}
	return d
}

// beginnings tells all beginnings of phrases, the root's ahead, in the order of their numbers.
func beginnings(l []string) []string {
	texts := []string{""}
	for _, s := range l {
		for k := 1; k <= len(s); k++ {
			if !slices.Contains(texts, s[:k]) {
				texts = append(texts, s[:k])
			}
		}
	}
	return texts
}

// outside tells numbers that are no node of a tree of so many.
func outside(count int) []int {
	return []int{-1, -2, -count, -count - 1, count, count + 1, count + api.Literals, math.MinInt, math.MaxInt}
}

// empty asks every call about a node that is none.
func empty(t *testing.T, x *trie.Trie, node int) {
	t.Helper()
	if x.Word(node) != -1 || x.Text(node) != "" || x.Depth(node) != 0 || len(x.Sons(node)) != 0 {
		t.Errorf("node %d is none: %d, %q, %d, %q", node, x.Word(node), x.Text(node), x.Depth(node), x.Sons(node))
	}
	for c := range 256 {
		if son, ok := x.Next(node, byte(c)); son != 0 || ok {
			t.Errorf("Next(%d, %d) of a node that is none: %d, %v", node, c, son, ok)
		}
	}
}

// holds asks every call of a tree about every node, and about others.
func holds(t *testing.T, x *trie.Trie, l []string) {
	t.Helper()
	texts := beginnings(l)
	if x.Len() != len(texts) {
		t.Fatalf("Len() of %.60q: %d, not %d", l, x.Len(), len(texts))
	}
	number := map[string]int{}
	for n, s := range texts {
		number[s] = n
	}
	for n, s := range texts {
		if x.Text(n) != s || x.Depth(n) != len(s) {
			t.Errorf("node %d of %.60q: %q, %d, not %q", n, l, x.Text(n), x.Depth(n), s)
		}
		if x.Word(n) != slices.Index(l, s) {
			t.Errorf("Word(%d), of %q: %d, not %d", n, s, x.Word(n), slices.Index(l, s))
		}
		var by []byte
		for c := range 256 {
			want, is := number[s+string([]byte{byte(c)})]
			if son, ok := x.Next(n, byte(c)); son != want || ok != is {
				t.Errorf("Next(%d, %d), of %q: %d, %v, not %d, %v", n, c, s, son, ok, want, is)
			}
			if is {
				by = append(by, byte(c))
			}
		}
		if !slices.Equal(x.Sons(n), by) {
			t.Errorf("Sons(%d), of %q: %q, not %q", n, s, x.Sons(n), by)
		}
	}
	for _, n := range outside(len(texts)) {
		empty(t, x, n)
	}
}

// words tells count phrases of size bytes, no two of which begin alike (up to 251 of them).
func words(count, size int) []string {
	var l []string
	for k := range count {
		l = append(l, string([]byte{byte(k * 97 % 251)})+strings.Repeat("x", size-1))
	}
	return l
}

// lists tells phrases of which a tree is asked: none, one, within one another, in every order, the most.
func lists() [][]string {
	long := strings.Repeat("a", api.MaxPhrase)
	return [][]string{
		nil,
		{"a"},
		{"\x00"},
		{"\xff", "\x00", "\x80\x7f", "\x7f\x80", "ż"},
		{"ab", "a"},
		{"a", "ab"},
		{"abc", "ab", "a"},
		{"a", "abc", "ab"},
		{"ab", "a", "abd", "ca", "\xff"},
		{"abcd", "bcd", "cd", "d"},
		{"d", "cd", "bcd", "abcd"},
		{"az", "am", "aa", "a\x00", "a\xff", "ab"},
		{"zz", "y", "zy", "yz", "yy", "z"},
		{"aa", "ba", "ab", "bb"},
		{"a\x00", "a", "\x00a", "\x00"},
		{long},
		{long[1:], long, long[2:], "a", "b" + long[1:]},
		words(api.MaxPhrases, 1),
		words(api.MaxPhrases, api.MaxBytes/api.MaxPhrases),
		words(api.MaxBytes/api.MaxPhrase, api.MaxPhrase),
	}
}

func TestP701EveryNode(t *testing.T) {
	for _, l := range lists() {
		holds(t, trie.New(made(t, l...)), l)
	}
}

// All lists of up to three of nine short phrases of two letters, in every order.
func TestP701SmallTrees(t *testing.T) {
	texts := []string{"a", "b", "aa", "ab", "ba", "bb", "aab", "aba", "bab"}
	var all func(l []string)
	all = func(l []string) {
		holds(t, trie.New(made(t, l...)), l)
		if len(l) == 3 {
			return
		}
		for _, s := range texts {
			if !slices.Contains(l, s) {
				all(append(slices.Clone(l), s))
			}
		}
	}
	all(nil)
}

// Nodes are numbered as the phrases bring them, not by their depth, nor by their bytes.
func TestP701NumbersGoPhraseByPhrase(t *testing.T) {
	x := trie.New(made(t, "zab", "zb", "a", "zabc"))
	var got []string
	for n := range x.Len() {
		got = append(got, x.Text(n))
	}
	if want := []string{"", "z", "za", "zab", "zb", "a", "zabc"}; !slices.Equal(got, want) {
		t.Errorf("nodes: %q, not %q", got, want)
	}
	if string(x.Sons(0)) != "az" || string(x.Sons(1)) != "ab" || len(x.Sons(4)) != 0 {
		t.Errorf("sons: %q, %q, %q", x.Sons(0), x.Sons(1), x.Sons(4))
	}
	if son, ok := x.Next(3, 'c'); son != 6 || !ok {
		t.Errorf("Next(3, 'c'): %d, %v", son, ok)
	}
}

func TestP701TheMostNodes(t *testing.T) {
	x := trie.New(made(t, words(api.MaxBytes/api.MaxPhrase, api.MaxPhrase)...))
	if x.Len() != api.MaxBytes+1 || x.Depth(api.MaxBytes) != api.MaxPhrase {
		t.Errorf("Len(): %d; the last one's Depth: %d", x.Len(), x.Depth(x.Len()-1))
	}
}

func TestP701WordOfBeginningsAlone(t *testing.T) {
	x := trie.New(made(t, "abc", "ab"))
	if x.Word(0) != -1 || x.Word(1) != -1 || x.Word(2) != 1 || x.Word(3) != 0 {
		t.Errorf("words: %d, %d, %d, %d", x.Word(0), x.Word(1), x.Word(2), x.Word(3))
	}
}

func TestP701Example(t *testing.T) {
	if n := trie.New(made(t, "ab", "a")).Len(); n != 3 {
		t.Errorf("nodes of ab, a: %d", n)
	}
}

func TestP701OfNoPhrasesIsTheRoot(t *testing.T) {
	x := trie.New(made(t))
	if x == nil || x.Len() != 1 {
		t.Fatalf("of no phrases: %v, %d", x, x.Len())
	}
	empty(t, x, 0)
}

func TestP701OfNilIsNil(t *testing.T) {
	if x := trie.New(nil); x != nil {
		t.Errorf("New(nil): %v", x)
	}
	var x *trie.Trie
	if x.Len() != 0 {
		t.Errorf("Len() of nil: %d", x.Len())
	}
	for _, n := range append(outside(1), 0) {
		empty(t, x, n)
	}
}

func TestP701SonsAreNewEachTime(t *testing.T) {
	l := []string{"b", "c", "a", "ax"}
	x := trie.New(made(t, l...))
	one, other := x.Sons(0), x.Sons(0)
	one[0], one[2] = 'z', 'y'
	_ = append(one[:1], 'x')
	if string(other) != "abc" {
		t.Errorf("two answers share memory: %q", other)
	}
	holds(t, x, l)
}

func TestP701TreesHangOnTheirOwnPhrases(t *testing.T) {
	l, m := []string{"ab", "a"}, []string{"b", "ab", "abc"}
	d := made(t, l...)
	x, y, z := trie.New(d), trie.New(made(t, m...)), trie.New(d)
	holds(t, y, m)
	holds(t, x, l)
	holds(t, z, l)
	if !slices.Equal(d.All(), l) {
		t.Errorf("New changed its dictionary: %q", d.All())
	}
}
