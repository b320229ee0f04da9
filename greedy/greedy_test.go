package greedy_test

import (
	"math"
	"slices"
	"strings"
	"testing"

	"lexiphane/api"
	"lexiphane/dict"
	"lexiphane/greedy"
)

// book tells a dictionary of phrases that dict must take.
func book(t *testing.T, l ...string) *dict.Dict {
	t.Helper()
	d, err := dict.New(l...)
	if err != nil {
		t.Fatalf("dict.New(%.60q): %v", l, err)
	}
	return d
}

// next tells the token at a place and its bytes by a plain reckoning: from the greatest length down.
func next(l []string, b string, at int) (int, int) {
	for size := min(api.MaxPhrase, len(b)-at); size > 0; size-- {
		if id := slices.Index(l, b[at:at+size]); id >= 0 {
			return 256 + id, size
		}
	}
	return int(b[at]), 1
}

// parse tells the tokens of bytes by the plain reckoning, from the first on.
func parse(l []string, b string) []int {
	var tokens []int
	for at := 0; at < len(b); {
		token, size := next(l, b, at)
		tokens = append(tokens, token)
		at += size
	}
	return tokens
}

// meaning tells the bytes that tokens of these phrases stand for.
func meaning(t *testing.T, l []string, tokens []int) string {
	t.Helper()
	var b []byte
	for _, token := range tokens {
		switch {
		case token >= 0 && token < 256:
			b = append(b, byte(token))
		case token >= 256 && token < 256+len(l):
			b = append(b, l[token-256]...)
		default:
			t.Fatalf("%d is no token of %.60q", token, l)
		}
	}
	return string(b)
}

// holdsNext asks Next of one place.
func holdsNext(t *testing.T, d *dict.Dict, b string, at, token, size int) {
	t.Helper()
	if gotToken, gotSize := greedy.Next(d, b, at); gotToken != token || gotSize != size {
		t.Errorf("Next in %.60q at %d: %d, %d, not %d, %d", b, at, gotToken, gotSize, token, size)
	}
}

// holds asks both calls of one text: Next at all its places, and at such as are none.
func holds(t *testing.T, d *dict.Dict, l []string, b string) {
	t.Helper()
	for at := range len(b) {
		token, size := next(l, b, at)
		holdsNext(t, d, b, at, token, size)
	}
	for _, at := range outside(len(b)) {
		holdsNext(t, d, b, at, 0, 0)
	}
	got := greedy.Parse(d, b)
	if len(b) > api.MaxBlock {
		if len(got) != 0 {
			t.Errorf("Parse of %d bytes: %d tokens", len(b), len(got))
		}
		return
	}
	if !slices.Equal(got, parse(l, b)) {
		t.Errorf("Parse of %.60q in %.60q: %d, not %d", l, b, got, parse(l, b))
	}
	if meaning(t, l, got) != b {
		t.Errorf("Parse of %.60q in %.60q means %.60q", l, b, meaning(t, l, got))
	}
}

// outside tells numbers that are no place in so many bytes.
func outside(count int) []int {
	return []int{-1, -2, -count - 1, count, count + 1, count + api.MaxPhrase, math.MinInt, math.MaxInt}
}

// rising tells the texts of 1 to count bytes a, the shortest first.
func rising(count int) []string {
	var l []string
	for k := range count {
		l = append(l, strings.Repeat("a", k+1))
	}
	return l
}

// singles tells the most phrases of one byte each, the last bytes among them.
func singles() []string {
	var l []string
	for k := range api.MaxPhrases {
		l = append(l, string([]byte{byte(255 - 2*k)}))
	}
	return l
}

// lists tells phrases that are parsed by: none, one, beginnings and ends of one another, in several orders, the longest, the most.
func lists() [][]string {
	long := strings.Repeat("a", api.MaxPhrase)
	falling := rising(api.MaxPhrase)
	slices.Reverse(falling)
	return [][]string{
		nil,
		{"a"},
		{"\x00"},
		{"\xff\x00\xff", "\x00\xff", "\xff", "ż"},
		{"ab", "b"},
		{"ab", "a"},
		{"a", "ab", "bcd"},
		{"ab", "a", "abcd", "bcx"},
		{"abcd", "abcde", "bcd", "cd"},
		{"she", "he", "hers", "his", "e", "h", "sh"},
		{"abab", "ababab", "bab", "b", "aba"},
		{long},
		{long[1:] + "b", long, "a", "aab", "b"},
		rising(api.MaxPhrase),
		falling,
		singles(),
	}
}

func TestP1301EveryPlace(t *testing.T) {
	for _, l := range lists() {
		d := book(t, l...)
		whole := strings.Join(l, "")
		for _, b := range []string{"", "x", whole, whole + whole, strings.Join(l, "x") + "x", "ushers e", strings.Repeat("ab", 50), strings.Repeat("a", 2*api.MaxPhrase) + "b", "\x00\x7f\x80\xff"} {
			holds(t, d, l, b)
		}
	}
}

// All bytes of up to seven of two letters, by all lists of up to two of seven short phrases.
func TestP1301SmallTexts(t *testing.T) {
	texts := []string{"a", "b", "ab", "ba", "aab", "aba", "abba"}
	for i, one := range texts {
		for k, other := range texts {
			l := []string{one, other}
			if i == k {
				l = l[:1]
			}
			d := book(t, l...)
			for size := range 8 {
				for m := range 1 << size {
					b := make([]byte, size)
					for n := range b {
						b[n] = "ab"[m>>n&1]
					}
					holds(t, d, l, string(b))
				}
			}
		}
	}
}

func TestP1301Example(t *testing.T) {
	if got := greedy.Parse(book(t, "ab"), "aab"); !slices.Equal(got, []int{97, 256}) {
		t.Errorf("Parse: %d", got)
	}
}

// By hand: the longest is taken, though a shorter one would make fewer tokens.
func TestP1301ByHand(t *testing.T) {
	d := book(t, "a", "ab", "bcd")
	if got := greedy.Parse(d, "abcd"); !slices.Equal(got, []int{257, 99, 100}) {
		t.Errorf("Parse: %d", got)
	}
	holdsNext(t, d, "abcd", 0, 257, 2)
	holdsNext(t, d, "abcd", 1, 258, 3)
	holdsNext(t, d, "abcd", 2, 99, 1)
	holdsNext(t, d, "abc", 1, 98, 1) // "bcd" isn't all there
}

func TestP1301APhraseOfOneByteGoesAheadOfTheByte(t *testing.T) {
	l := singles()
	d := book(t, l...)
	for k := range 256 {
		b := string([]byte{byte(k)})
		want := k
		if id := slices.Index(l, b); id >= 0 {
			want = 256 + id
		}
		holdsNext(t, d, b, 0, want, 1)
		if got := greedy.Parse(d, b); !slices.Equal(got, []int{want}) {
			t.Errorf("Parse of the byte %d: %d", k, got)
		}
	}
}

func TestP1301TheLastId(t *testing.T) {
	l := singles()
	l[api.MaxPhrases-1] = strings.Repeat("z", api.MaxPhrase)
	d := book(t, l...)
	holdsNext(t, d, strings.Repeat("z", api.MaxPhrase), 0, 355, 40)
	holdsNext(t, d, strings.Repeat("z", api.MaxPhrase-1), 0, 'z', 1)
}

// Parse has a bound, Next has none.
func TestP1301OfManyBytes(t *testing.T) {
	for _, l := range [][]string{nil, {"ab"}, rising(api.MaxPhrase)} {
		d := book(t, l...)
		for _, count := range []int{api.MaxBlock - 1, api.MaxBlock, api.MaxBlock + 1, 2 * api.MaxBlock} {
			holds(t, d, l, strings.Repeat("a", count))
			holds(t, d, l, strings.Repeat("ba", count)[:count])
		}
	}
	far := strings.Repeat("x", 100*api.MaxBlock)
	d := book(t, "ab")
	holdsNext(t, d, far+"ab", len(far), 256, 2)
	holdsNext(t, d, far+"ab", len(far)-1, 'x', 1)
}

// All bytes stand for themselves.
func TestP1301WithoutPhrases(t *testing.T) {
	var all []byte
	for k := range 256 {
		all = append(all, byte(k))
	}
	for _, d := range []*dict.Dict{nil, new(dict.Dict), book(t)} {
		for _, b := range []string{"", "ab", string(all), strings.Repeat("x", api.MaxBlock), strings.Repeat("x", api.MaxBlock+1)} {
			holds(t, d, nil, b)
		}
	}
}

func TestP1301AnswersAreNewEachTime(t *testing.T) {
	d := book(t, "ab")
	for range 2 {
		got := greedy.Parse(d, "aab")
		if !slices.Equal(got, []int{97, 256}) {
			t.Fatalf("a changed answer: %d", got)
		}
		_ = append(got[:0], 7, 7)
	}
}
