package best_test

import (
	"math"
	"slices"
	"strings"
	"testing"

	"lexiphane/api"
	"lexiphane/best"
	"lexiphane/cost"
	"lexiphane/dict"
	"lexiphane/flex"
	"lexiphane/greedy"
)

// price is a cost in whole numbers.
type price struct{ tokens, bits int }

// under tells whether one is fewer tokens, or as many and fewer bits.
func (p price) under(other price) bool {
	return p.tokens < other.tokens || p.tokens == other.tokens && p.bits < other.bits
}

// with tells the price with one more token.
func (p price) with(token int) price {
	if token < 128 {
		return price{p.tokens + 1, p.bits + 8}
	}
	return price{p.tokens + 1, p.bits + 16}
}

// book tells a dictionary of phrases that dict must take.
func book(t *testing.T, l ...string) *dict.Dict {
	t.Helper()
	d, err := dict.New(l...)
	if err != nil {
		t.Fatalf("dict.New(%.60q): %v", l, err)
	}
	return d
}

// choices tells the tokens that may stand at the beginning of bytes, the longest first, the byte last.
func choices(l []string, b string) []int {
	var tokens []int
	for n := min(api.MaxPhrase, len(b)); n > 0; n-- {
		if id := slices.Index(l, b[:n]); id >= 0 {
			tokens = append(tokens, 256+id)
		}
	}
	return append(tokens, int(b[0]))
}

// width tells how many bytes a token means.
func width(l []string, token int) int {
	if token < 256 {
		return 1
	}
	return len(l[token-256])
}

// reckon tells by a plain reckoning the price of what is behind each place, and the token to be taken there.
func reckon(l []string, b string) ([]price, []int) {
	prices, taken := make([]price, len(b)+1), make([]int, len(b))
	for at := len(b) - 1; at >= 0; at-- {
		for k, token := range choices(l, b[at:]) {
			p := prices[at+width(l, token)].with(token)
			if k == 0 || p.under(prices[at]) {
				prices[at], taken[at] = p, token
			}
		}
	}
	return prices, taken
}

// parse tells the tokens of bytes by the plain reckoning, piece by piece.
func parse(l []string, b string, window int) []int {
	var tokens []int
	for len(b) > 0 {
		piece := b[:min(window, len(b))]
		_, taken := reckon(l, piece)
		for at := 0; at < len(piece); at += width(l, taken[at]) {
			tokens = append(tokens, taken[at])
		}
		b = b[len(piece):]
	}
	return tokens
}

// meaning tells the bytes that tokens of these phrases stand for.
func meaning(t *testing.T, l []string, tokens []int) string {
	t.Helper()
	var b []byte
	for _, token := range tokens {
		switch {
		case token >= 0 && token < 256:
			b = append(b, byte(token))
		case token >= 256 && token < 256+len(l):
			b = append(b, l[token-256]...)
		default:
			t.Fatalf("%d is no token of %.60q", token, l)
		}
	}
	return string(b)
}

// holdsCosts asks Costs of one text.
func holdsCosts(t *testing.T, d *dict.Dict, l []string, b string) {
	t.Helper()
	var want []complex128
	if len(b) <= api.MaxBlock {
		prices, _ := reckon(l, b)
		for _, p := range prices {
			want = append(want, complex(float64(p.tokens), float64(p.bits)))
		}
	}
	if got := best.Costs(d, b); !slices.Equal(got, want) {
		t.Errorf("Costs of %.60q in %.60q: %v, not %v", l, b, got, want)
	}
}

// holdsParse asks Parse of one text and one window.
func holdsParse(t *testing.T, d *dict.Dict, l []string, b string, window int) {
	t.Helper()
	got := best.Parse(d, b, window)
	if len(b) > api.MaxBlock || window < 1 || window > api.MaxBlock {
		if len(got) != 0 {
			t.Errorf("Parse of %d bytes by %d: %d tokens", len(b), window, len(got))
		}
		return
	}
	if want := parse(l, b, window); !slices.Equal(got, want) {
		t.Errorf("Parse of %.60q in %.60q by %d: %d, not %d", l, b, window, got, want)
	}
	if meaning(t, l, got) != b {
		t.Errorf("Parse of %.60q in %.60q by %d means %.60q", l, b, window, meaning(t, l, got))
	}
}

// holds asks both calls of one text, Parse by windows of many sizes and such as are none.
func holds(t *testing.T, d *dict.Dict, l []string, b string) {
	t.Helper()
	holdsCosts(t, d, l, b)
	for _, window := range []int{1, 2, 3, 5, 7, api.MaxPhrase - 1, api.MaxPhrase, api.MaxPhrase + 1, len(b) - 1, len(b), len(b) + 1, api.MaxBlock - 1, api.MaxBlock} {
		holdsParse(t, d, l, b, window)
	}
	for _, window := range []int{0, -1, -api.MaxBlock, api.MaxBlock + 1, math.MinInt, math.MaxInt} {
		holdsParse(t, d, l, b, window)
	}
}

// rising tells the texts of 1 to count bytes a, the shortest first.
func rising(count int) []string {
	var l []string
	for k := range count {
		l = append(l, strings.Repeat("a", k+1))
	}
	return l
}

// singles tells the most phrases of one byte each, the last bytes among them.
func singles() []string {
	var l []string
	for k := range api.MaxPhrases {
		l = append(l, string([]byte{byte(255 - 2*k)}))
	}
	return l
}

// lists tells phrases that are parsed by: none, one, such as the longest first leads astray by, beginnings and ends of one another, in several orders, the longest, the most.
func lists() [][]string {
	long := strings.Repeat("a", api.MaxPhrase)
	falling := rising(api.MaxPhrase)
	slices.Reverse(falling)
	return [][]string{
		nil,
		{"a"},
		{"\x00"},
		{"\xff\x00\xff", "\x00\xff", "\xff", "ż"},
		{"ab", "bcd", "a"},
		{"bcd", "a", "ab"},
		{"ab", "abc", "cdef", "def"},
		{"abc", "bcdef", "cde", "ab", "de", "f"},
		{"abcd", "abcde", "bcd", "cd"},
		{"she", "he", "hers", "his", "e", "h", "sh"},
		{"abab", "ababab", "bab", "b", "aba"},
		{long},
		{"xa", long, "x"},
		{long[1:] + "b", long, "a", "aab", "b"},
		rising(api.MaxPhrase),
		falling,
		singles(),
	}
}

func TestP1501EveryPlaceAndWindow(t *testing.T) {
	for _, l := range lists() {
		d := book(t, l...)
		whole := strings.Join(l, "")
		for _, b := range []string{"", "x", whole, strings.Join(l, "x") + "x", "ushers e", "abcdef", strings.Repeat("ab", 50), "x" + strings.Repeat("a", 2*api.MaxPhrase) + "b", "\x00\x7f\x80\xff"} {
			b = b[:min(len(b), 3*api.MaxPhrase)]
			holds(t, d, l, b)
			holds(t, d, l, b+b)
		}
	}
}

// all tells each list of tokens that means some bytes.
func all(l []string, b string) [][]int {
	if b == "" {
		return [][]int{nil}
	}
	var lists [][]int
	for _, token := range choices(l, b) {
		for _, rest := range all(l, b[width(l, token):]) {
			lists = append(lists, append([]int{token}, rest...))
		}
	}
	return lists
}

// Of all lists of tokens whatever none costs less, of all bytes of up to six of two letters; the letter of 128 costs as much as its phrase.
func TestP1501OfAllTokensTheLeast(t *testing.T) {
	texts := []string{"a", "\x80", "a\x80", "\x80a", "aa\x80", "a\x80a", "\x80\x80", "a\x80\x80a"}
	for i, one := range texts {
		for k, other := range texts {
			l := []string{one, other}
			if i == k {
				l = l[:1]
			}
			d := book(t, l...)
			for size := range 7 {
				for m := range 1 << size {
					b := make([]byte, size)
					for n := range b {
						b[n] = "a\x80"[m>>n&1]
					}
					holdsLeast(t, d, l, string(b))
					holds(t, d, l, string(b))
				}
			}
		}
	}
}

// holdsLeast holds both calls against all lists of tokens of some bytes.
func holdsLeast(t *testing.T, d *dict.Dict, l []string, b string) {
	t.Helper()
	least, first := cost.Most(), []int(nil)
	// The lists come in the order in which they are to be taken.
	for _, tokens := range all(l, b) {
		if c := cost.Sum(tokens...); cost.Less(c, least) {
			least, first = c, tokens
		}
	}
	if c := best.Costs(d, b); len(c) != len(b)+1 || c[0] != least {
		t.Errorf("Costs of %q in %q: %v, not %v", l, b, c, least)
	}
	if got := best.Parse(d, b, api.MaxBlock); !slices.Equal(got, first) {
		t.Errorf("Parse of %q in %q: %d, not %d", l, b, got, first)
	}
}

func TestP1501Example(t *testing.T) {
	if got := best.Parse(book(t, "ab", "bcd", "a"), "abcd", 4); !slices.Equal(got, []int{97, 257}) {
		t.Errorf("Parse: %d", got)
	}
}

// By hand: by "ab" and "cdef", or "abc" and "def", two tokens; what is behind the end costs nothing.
func TestP1501ByHand(t *testing.T) {
	l := []string{"ab", "abc", "cdef", "def"}
	d := book(t, l...)
	want := []complex128{2 + 32i, 2 + 24i, 1 + 16i, 1 + 16i, 2 + 16i, 1 + 8i, 0}
	if got := best.Costs(d, "abcdef"); !slices.Equal(got, want) {
		t.Errorf("Costs: %v, not %v", got, want)
	}
	for window, want := range map[int][]int{
		1: {97, 98, 99, 100, 101, 102},
		2: {256, 99, 100, 101, 102},
		3: {257, 259},
		4: {257, 100, 101, 102},
		5: {257, 100, 101, 102},
		6: {257, 259},
	} {
		if got := best.Parse(d, "abcdef", window); !slices.Equal(got, want) {
			t.Errorf("Parse by %d: %d, not %d", window, got, want)
		}
	}
	// The longest first would take four.
	if got := best.Parse(book(t, l[:3]...), "abcdef", 6); !slices.Equal(got, []int{256, 258}) {
		t.Errorf("Parse: %d", got)
	}
}

// A byte below 128 takes fewer bits than its phrase; from 128 on as many, and the phrase goes ahead.
func TestP1501AByteAndItsPhrase(t *testing.T) {
	var low, high []string
	for k := range 128 {
		low, high = append(low, string([]byte{byte(k)})), append(high, string([]byte{byte(128 + k)}))
	}
	for _, l := range [][]string{low[:100], low[28:], high[:100], high[28:]} {
		d := book(t, l...)
		for k := range 256 {
			b := string([]byte{byte(k)})
			token, c := k, complex128(1+8i)
			if k >= 128 {
				c = 1 + 16i
			}
			if id := slices.Index(l, b); id >= 0 && k >= 128 {
				token = 256 + id
			}
			if got := best.Parse(d, b, 1); !slices.Equal(got, []int{token}) {
				t.Errorf("Parse of the byte %d: %d, not %d", k, got, token)
			}
			if got := best.Costs(d, b); !slices.Equal(got, []complex128{c, 0}) {
				t.Errorf("Costs of the byte %d: %v, not %v", k, got, c)
			}
		}
	}
}

// Fewer tokens go ahead of fewer bits; of as many tokens fewer bits go ahead of the longest.
func TestP1501TokensThenBitsThenLength(t *testing.T) {
	for _, c := range []struct {
		l    []string
		b    string
		want []int
		cost complex128
	}{
		{[]string{"ab"}, "ab", []int{256}, 1 + 16i},
		{[]string{"ab", "abc", "bcd"}, "abcd", []int{257, 100}, 2 + 24i},                 // by 'a' and "bcd" as many bits: the longest
		{[]string{"ab", "abc", "bc\x80"}, "abc\x80", []int{97, 258}, 2 + 24i},            // by "abc" and the byte 128 more bits
		{[]string{"ab", "cd", "abc"}, "abcd", []int{258, 100}, 2 + 24i},                  // by "ab" and "cd" more bits
		{[]string{"\x80\x80", "\x80"}, "\x80\x80\x80", []int{256, 257}, 2 + 32i},         // of the first byte its phrase would keep it, too
		{[]string{"\x80a", "a\x80\x80"}, "\x80a\x80\x80", []int{128, 257}, 2 + 32i},      // the longest at first would take three
		{[]string{"ab", "abc", "cde", "de"}, "abcde", []int{257, 259}, 2 + 32i},          // as many and as few: the longest at first
		{[]string{"ab", "bc", "abcd", "cdef", "ef"}, "abcdef", []int{258, 260}, 2 + 32i}, // likewise
	} {
		d := book(t, c.l...)
		if got := best.Parse(d, c.b, len(c.b)); !slices.Equal(got, c.want) {
			t.Errorf("Parse of %q in %q: %d, not %d", c.l, c.b, got, c.want)
		}
		if got := best.Costs(d, c.b); len(got) != len(c.b)+1 || got[0] != c.cost {
			t.Errorf("Costs of %q in %q: %v, not %v", c.l, c.b, got, c.cost)
		}
	}
}

// The other ways take no fewer tokens.
func TestP1501NoMoreThanTheOtherWays(t *testing.T) {
	for _, l := range lists() {
		d := book(t, l...)
		b := strings.Repeat(strings.Join(l, "")+"abcdefushershis", 10)
		b = b[:min(len(b), api.MaxBlock)]
		count := len(best.Parse(d, b, api.MaxBlock))
		if count > len(greedy.Parse(d, b)) || count > len(flex.Parse(d, b)) {
			t.Errorf("%d tokens of %.60q in %.60q, by the other ways %d and %d", count, l, b, len(greedy.Parse(d, b)), len(flex.Parse(d, b)))
		}
	}
}

// No phrase goes from one piece into the next, and none is taken for lack of the next.
func TestP1501PiecesByThemselves(t *testing.T) {
	l := []string{"abc", "bc", "cab", "a", "ca"}
	d := book(t, l...)
	for count := range 40 {
		b := strings.Repeat("abc", count)
		for window := range len(b) + 2 {
			holdsParse(t, d, l, b, window)
			if window == 0 {
				continue
			}
			var pieces []int
			for from := 0; from < len(b); from += window {
				pieces = append(pieces, best.Parse(d, b[from:min(from+window, len(b))], api.MaxBlock)...)
			}
			if got := best.Parse(d, b, window); !slices.Equal(got, pieces) {
				t.Errorf("Parse of %d bytes by %d: %d, not %d", len(b), window, got, pieces)
			}
		}
	}
}

func TestP1501TheLastIdAndTheLongestPhrase(t *testing.T) {
	l := singles()
	long := strings.Repeat("z", api.MaxPhrase)
	l[api.MaxPhrases-1] = long
	d := book(t, l...)
	if got := best.Parse(d, long, api.MaxPhrase); !slices.Equal(got, []int{355}) {
		t.Errorf("Parse of the longest: %d", got)
	}
	if got := best.Parse(d, "z"+long, api.MaxBlock); !slices.Equal(got, []int{355, 'z'}) {
		t.Errorf("Parse of the longest and a byte: %d", got)
	}
	if got := best.Parse(d, long, api.MaxPhrase-1); len(got) != api.MaxPhrase {
		t.Errorf("Parse of the longest cut off: %d", got)
	}
}

// A block is parsed, more than a block is not, whatever the window.
func TestP1501OfManyBytes(t *testing.T) {
	for _, l := range [][]string{nil, {"ab"}, {"ba", "aba"}, rising(api.MaxPhrase)} {
		d := book(t, l...)
		for _, count := range []int{api.MaxBlock - 1, api.MaxBlock, api.MaxBlock + 1, 2 * api.MaxBlock} {
			for _, b := range []string{strings.Repeat("a", count), strings.Repeat("ba", count)[:count], strings.Repeat("\xff", count)} {
				holds(t, d, l, b)
			}
		}
	}
}

// All bytes stand for themselves.
func TestP1501WithoutPhrases(t *testing.T) {
	var every []byte
	for k := range 256 {
		every = append(every, byte(k))
	}
	for _, d := range []*dict.Dict{nil, new(dict.Dict), book(t)} {
		for _, b := range []string{"", "ab", string(every), strings.Repeat("x", api.MaxBlock), strings.Repeat("x", api.MaxBlock+1)} {
			holds(t, d, nil, b)
		}
		if got := best.Costs(d, ""); !slices.Equal(got, []complex128{0}) {
			t.Errorf("Costs of no bytes: %v", got)
		}
	}
}

func TestP1501AnswersAreNewEachTime(t *testing.T) {
	d := book(t, "ab", "bcd")
	for range 2 {
		tokens, costs := best.Parse(d, "abcd", 4), best.Costs(d, "cd")
		if !slices.Equal(tokens, []int{97, 257}) || !slices.Equal(costs, []complex128{2 + 16i, 1 + 8i, 0}) {
			t.Fatalf("changed answers: %d, %v", tokens, costs)
		}
		_ = append(tokens[:0], 7, 7)
		_ = append(costs[:0], 7, 7, 7)
	}
}
