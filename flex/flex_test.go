package flex_test

import (
	"math"
	"slices"
	"strings"
	"testing"

	"lexiphane/api"
	"lexiphane/dict"
	"lexiphane/flex"
)

// book tells a dictionary of phrases that dict must take.
func book(t *testing.T, l ...string) *dict.Dict {
	t.Helper()
	d, err := dict.New(l...)
	if err != nil {
		t.Fatalf("dict.New(%.60q): %v", l, err)
	}
	return d
}

// reach tells by a plain reckoning how far one comes by n bytes that are there, and the longest phrase behind them.
func reach(l []string, b string, at, n int) int {
	from := at + n
	if from == len(b) {
		return from
	}
	for size := min(api.MaxPhrase, len(b)-from); size > 1; size-- {
		if slices.Contains(l, b[from:from+size]) {
			return from + size
		}
	}
	return from + 1
}

// next tells the token at a place and its bytes by the plain reckoning: from the greatest length down, so that a shorter one must come farther.
func next(l []string, b string, at int) (int, int) {
	token, size, far := 0, 0, 0
	for n := min(api.MaxPhrase, len(b)-at); n > 0; n-- {
		id := slices.Index(l, b[at:at+n])
		if id < 0 && n > 1 || reach(l, b, at, n) <= far {
			continue
		}
		token, size, far = 256+id, n, reach(l, b, at, n)
		if id < 0 {
			token = int(b[at])
		}
	}
	return token, size
}

// parse tells the tokens of bytes by the plain reckoning, from the first on.
func parse(l []string, b string) []int {
	var tokens []int
	for at := 0; at < len(b); {
		token, size := next(l, b, at)
		tokens = append(tokens, token)
		at += size
	}
	return tokens
}

// meaning tells the bytes that tokens of these phrases stand for.
func meaning(t *testing.T, l []string, tokens []int) string {
	t.Helper()
	var b []byte
	for _, token := range tokens {
		switch {
		case token >= 0 && token < 256:
			b = append(b, byte(token))
		case token >= 256 && token < 256+len(l):
			b = append(b, l[token-256]...)
		default:
			t.Fatalf("%d is no token of %.60q", token, l)
		}
	}
	return string(b)
}

// holdsNext asks Next of one place.
func holdsNext(t *testing.T, d *dict.Dict, b string, at, token, size int) {
	t.Helper()
	if gotToken, gotSize := flex.Next(d, b, at); gotToken != token || gotSize != size {
		t.Errorf("Next in %.60q at %d: %d, %d, not %d, %d", b, at, gotToken, gotSize, token, size)
	}
}

// holdsReach asks Reach of one place and one number of bytes.
func holdsReach(t *testing.T, d *dict.Dict, b string, at, n, want int) {
	t.Helper()
	if got := flex.Reach(d, b, at, n); got != want {
		t.Errorf("Reach in %.60q at %d by %d: %d, not %d", b, at, n, got, want)
	}
}

// holdsParse asks Parse of one text.
func holdsParse(t *testing.T, d *dict.Dict, l []string, b string) {
	t.Helper()
	got := flex.Parse(d, b)
	if len(b) > api.MaxBlock {
		if len(got) != 0 {
			t.Errorf("Parse of %d bytes: %d tokens", len(b), len(got))
		}
		return
	}
	if !slices.Equal(got, parse(l, b)) {
		t.Errorf("Parse of %.60q in %.60q: %d, not %d", l, b, got, parse(l, b))
	}
	if meaning(t, l, got) != b {
		t.Errorf("Parse of %.60q in %.60q means %.60q", l, b, meaning(t, l, got))
	}
}

// holds asks all calls of one text: Next and Reach at all its places, and at such as are none.
func holds(t *testing.T, d *dict.Dict, l []string, b string) {
	t.Helper()
	for at := range len(b) {
		token, size := next(l, b, at)
		holdsNext(t, d, b, at, token, size)
	}
	for at := range len(b) + 1 {
		for n := range min(len(b)-at, api.MaxPhrase+1) + 1 {
			holdsReach(t, d, b, at, n, reach(l, b, at, n))
		}
		for _, n := range []int{math.MinInt, -1, len(b) - at + 1, len(b) + 1, math.MaxInt - at, math.MaxInt} {
			holdsReach(t, d, b, at, n, 0)
		}
	}
	for _, at := range outside(len(b)) {
		holdsNext(t, d, b, at, 0, 0)
		for _, n := range []int{math.MinInt, -1, 0, 1, 2, len(b), math.MaxInt} {
			if at != len(b) {
				holdsReach(t, d, b, at, n, 0)
			}
		}
	}
	holdsParse(t, d, l, b)
}

// outside tells numbers that are no place in so many bytes.
func outside(count int) []int {
	return []int{-1, -2, -count - 1, count, count + 1, count + api.MaxPhrase, math.MinInt, math.MaxInt}
}

// rising tells the texts of 1 to count bytes a, the shortest first.
func rising(count int) []string {
	var l []string
	for k := range count {
		l = append(l, strings.Repeat("a", k+1))
	}
	return l
}

// singles tells the most phrases of one byte each, the last bytes among them.
func singles() []string {
	var l []string
	for k := range api.MaxPhrases {
		l = append(l, string([]byte{byte(255 - 2*k)}))
	}
	return l
}

// lists tells phrases that are parsed by: none, one, such as a look ahead turns away from, beginnings and ends of one another, in several orders, the longest, the most.
func lists() [][]string {
	long := strings.Repeat("a", api.MaxPhrase)
	falling := rising(api.MaxPhrase)
	slices.Reverse(falling)
	return [][]string{
		nil,
		{"a"},
		{"\x00"},
		{"\xff\x00\xff", "\x00\xff", "\xff", "ż"},
		{"ab", "bcd"},
		{"bcd", "a", "ab"},
		{"a", "ab", "abc", "cde", "bc"},
		{"abc", "bcdef", "cde", "ab", "de", "f"},
		{"abcd", "abcde", "bcd", "cd"},
		{"she", "he", "hers", "his", "e", "h", "sh"},
		{"abab", "ababab", "bab", "b", "aba"},
		{long},
		{"xa", long, "x"},
		{long[1:] + "b", long, "a", "aab", "b"},
		rising(api.MaxPhrase),
		falling,
		singles(),
	}
}

func TestP1401EveryPlace(t *testing.T) {
	for _, l := range lists() {
		d := book(t, l...)
		whole := strings.Join(l, "")
		for _, b := range []string{"", "x", whole, strings.Join(l, "x") + "x", "ushers e", "abcdef", strings.Repeat("ab", 50), "x" + strings.Repeat("a", 2*api.MaxPhrase) + "b", "\x00\x7f\x80\xff"} {
			holds(t, d, l, b[:min(len(b), 3*api.MaxPhrase)])
			holdsParse(t, d, l, b+b)
		}
	}
}

// All bytes of up to seven of two letters, by all lists of up to two of eight short phrases.
func TestP1401SmallTexts(t *testing.T) {
	texts := []string{"a", "b", "ab", "ba", "aab", "aba", "bab", "abba"}
	for i, one := range texts {
		for k, other := range texts {
			l := []string{one, other}
			if i == k {
				l = l[:1]
			}
			d := book(t, l...)
			for size := range 8 {
				for m := range 1 << size {
					b := make([]byte, size)
					for n := range b {
						b[n] = "ab"[m>>n&1]
					}
					holds(t, d, l, string(b))
				}
			}
		}
	}
}

func TestP1401Example(t *testing.T) {
	if got := flex.Parse(book(t, "ab", "bcd"), "abcd"); !slices.Equal(got, []int{97, 257}) {
		t.Errorf("Parse: %d", got)
	}
}

// By hand: how far one comes by the phrases at 0 of "abcdefg", and by its byte.
func TestP1401ByHand(t *testing.T) {
	d := book(t, "abc", "bcdef", "cde", "ab", "de")
	for n, want := range []int{3, 6, 5, 5, 5, 6, 7, 7, 0} {
		holdsReach(t, d, "abcdefg", 0, n, want)
	}
	holdsNext(t, d, "abcdefg", 0, 97, 1)  // by the byte: 6; by "ab" and "abc": 5
	holdsNext(t, d, "abcdeg", 0, 256, 3)  // "bcdef" isn't there: by the byte: 2; by "ab" and "abc": 5
	holdsNext(t, d, "abcdxe", 0, 256, 3)  // by "abc": 4
	holdsNext(t, d, "abx", 0, 259, 2)     // to the end
	holdsNext(t, d, "ab", 0, 259, 2)      // "ab" leads to the end, as the bytes do
	holdsNext(t, d, "xabcdefg", 1, 97, 1) // places count from the beginning on
	if got := flex.Parse(d, "abcdefg"); !slices.Equal(got, []int{97, 257, 103}) {
		t.Errorf("Parse: %d", got)
	}
	// By "abc" and "de" one comes as far as by "ab" and "cde".
	if got := flex.Parse(d, "abcdeg"); !slices.Equal(got, []int{256, 260, 103}) {
		t.Errorf("Parse: %d", got)
	}
}

// Of several that come as far the longest, whichever ids they have; one that comes farther goes ahead of longer ones.
func TestP1401OfSeveralTheLongest(t *testing.T) {
	l := []string{"a", "ab", "abc", "bcd", "cd", "d"}
	for turn := range l {
		turned := append(slices.Clone(l[turn:]), l[:turn]...)
		d := book(t, turned...)
		longest, middle := 256+slices.Index(turned, "abc"), 256+slices.Index(turned, "ab")
		holdsNext(t, d, "abcd", 0, longest, 3) // by each: 4
		holdsNext(t, d, "abc", 0, longest, 3)  // by each: 3
		holdsNext(t, d, "ab", 0, middle, 2)
		more := append(slices.Clone(turned), "cde")
		holdsNext(t, book(t, more...), "abcde", 0, middle, 2)
		more = append(more, "bcdef")
		holdsNext(t, book(t, more...), "abcdef", 0, 256+slices.Index(more, "a"), 1)
	}
}

// The byte is asked though longer phrases stand there, but not beside its phrase, wherever that is in the list.
func TestP1401APhraseOfOneByteGoesAheadOfTheByte(t *testing.T) {
	holdsNext(t, book(t, "ab", "bcd"), "abcd", 0, 97, 1)
	holdsNext(t, book(t, "ab", "bcd", "a"), "abcd", 0, 258, 1)
	holdsNext(t, book(t, "a", "ab", "bcd"), "abcd", 0, 256, 1)
	l := singles()
	d := book(t, l...)
	for k := range 256 {
		b := string([]byte{byte(k)})
		want := k
		if id := slices.Index(l, b); id >= 0 {
			want = 256 + id
		}
		holdsNext(t, d, b, 0, want, 1)
		holdsNext(t, d, b+b, 0, want, 1)
		if got := flex.Parse(d, b); !slices.Equal(got, []int{want}) {
			t.Errorf("Parse of the byte %d: %d", k, got)
		}
	}
}

func TestP1401TheLastIdAndTheLongestPhrase(t *testing.T) {
	l := singles()
	l[api.MaxPhrases-1] = strings.Repeat("z", api.MaxPhrase)
	d := book(t, l...)
	holdsNext(t, d, l[api.MaxPhrases-1], 0, 355, 40)
	holdsNext(t, d, l[api.MaxPhrases-1][1:], 0, 'z', 1)
	holdsNext(t, d, "z"+l[api.MaxPhrases-1], 0, 355, 40) // by both 41 bytes: the longest
	holdsReach(t, d, "z"+l[api.MaxPhrases-1], 0, 1, 41)
	holdsReach(t, d, "z"+l[api.MaxPhrases-1], 0, 41, 41)
}

// At the end no phrase is behind it any more; past it nothing is.
func TestP1401ReachAtTheEnd(t *testing.T) {
	d := book(t, "ab", "b")
	for _, b := range []string{"", "x", "ab", strings.Repeat("ab", api.MaxBlock)} {
		for at := range len(b) + 1 {
			holdsReach(t, d, b, at, len(b)-at, len(b))
			holdsReach(t, d, b, at, len(b)-at+1, 0)
		}
		holdsReach(t, d, b, len(b)+1, 0, 0)
		holdsReach(t, d, b, len(b)+1, -1, 0)
		holdsReach(t, d, b, -1, 1, 0)
		holdsReach(t, d, b, 1, -1, 0)
		holdsReach(t, d, b, math.MaxInt, math.MaxInt, 0)
		holdsReach(t, d, b, math.MinInt, math.MaxInt, 0)
		holdsReach(t, d, b, math.MinInt, math.MinInt, 0)
	}
}

// Parse has a bound, Next and Reach have none.
func TestP1401OfManyBytes(t *testing.T) {
	for _, l := range [][]string{nil, {"ab"}, {"ba", "aba"}, rising(api.MaxPhrase)} {
		d := book(t, l...)
		for _, count := range []int{api.MaxBlock - 1, api.MaxBlock, api.MaxBlock + 1, 2 * api.MaxBlock} {
			holdsParse(t, d, l, strings.Repeat("a", count))
			holdsParse(t, d, l, strings.Repeat("ba", count)[:count])
		}
	}
	far := strings.Repeat("x", 100*api.MaxBlock)
	d := book(t, "ab", "bcd")
	holdsNext(t, d, far+"abcd", len(far), 97, 1)
	holdsNext(t, d, far+"abcd", len(far)+1, 257, 3)
	holdsNext(t, d, far+"abcd", len(far)-1, 'x', 1)
	holdsReach(t, d, far+"abcd", 0, len(far), len(far)+2)
	holdsReach(t, d, far+"abcd", len(far), 1, len(far)+4)
}

// All bytes stand for themselves.
func TestP1401WithoutPhrases(t *testing.T) {
	var all []byte
	for k := range 256 {
		all = append(all, byte(k))
	}
	for _, d := range []*dict.Dict{nil, new(dict.Dict), book(t)} {
		for _, b := range []string{"", "ab", string(all)} {
			holds(t, d, nil, b)
		}
		holdsParse(t, d, nil, strings.Repeat("x", api.MaxBlock))
		holdsParse(t, d, nil, strings.Repeat("x", api.MaxBlock+1))
	}
}

func TestP1401AnswersAreNewEachTime(t *testing.T) {
	d := book(t, "ab", "bcd")
	for range 2 {
		got := flex.Parse(d, "abcd")
		if !slices.Equal(got, []int{97, 257}) {
			t.Fatalf("a changed answer: %d", got)
		}
		_ = append(got[:0], 7, 7)
	}
}
