package mean_test

import (
	"math"
	"slices"
	"strings"
	"testing"

	"lexiphane/api"
	"lexiphane/best"
	"lexiphane/dict"
	"lexiphane/flex"
	"lexiphane/greedy"
	"lexiphane/mean"
)

// book tells a dictionary of phrases that dict must take.
func book(t *testing.T, l ...string) *dict.Dict {
	t.Helper()
	d, err := dict.New(l...)
	if err != nil {
		t.Fatalf("dict.New(%.60q): %v", l, err)
	}
	return d
}

// meanings tells what each token means, from the token 0 on.
func meanings(l []string) []string {
	var all []string
	for k := range 256 {
		all = append(all, string([]byte{byte(k)}))
	}
	return append(all, l...)
}

// reckon tells what Of is to answer, by a plain reckoning: each list of the first tokens is looked at anew.
func reckon(l []string, most int, tokens []int) (string, api.Errno) {
	all := meanings(l)
	out := ""
	for k := range tokens {
		if tokens[k] < 0 || tokens[k] >= len(all) {
			return "", api.ErrToken
		}
		out += all[tokens[k]]
		if len(out) > most {
			return "", api.ErrSize
		}
	}
	return out, api.OK
}

// holds asks Of of some tokens and one bound.
func holds(t *testing.T, d *dict.Dict, l []string, most int, tokens []int) {
	t.Helper()
	want, wantErr := reckon(l, most, tokens)
	got, err := mean.Of(d, most, tokens...)
	if got != want || err != wantErr {
		t.Errorf("Of %d by %.60q, at most %d: %.60q, %d, not %.60q, %d", tokens, l, most, got, err, want, wantErr)
	}
}

// outside tells numbers that are no token of so many phrases, from the nearest on.
func outside(count int) []int {
	end := 256 + count
	return []int{-1, -2, -255, -256, -257, math.MinInt32, math.MinInt, end, end + 1, end + 256, 1 << 16, math.MaxInt32, 1 << 32, 1<<32 + 97, 1<<32 + 256, math.MaxInt - 255, math.MaxInt - 256, math.MaxInt}
}

// rising tells the texts of 1 to count bytes a, the shortest first.
func rising(count int) []string {
	var l []string
	for k := range count {
		l = append(l, strings.Repeat("a", k+1))
	}
	return l
}

// singles tells the most phrases of one byte each, the last bytes among them.
func singles() []string {
	var l []string
	for k := range api.MaxPhrases {
		l = append(l, string([]byte{byte(255 - 2*k)}))
	}
	return l
}

// lists tells phrases by which tokens mean something: none, one, of bytes at both ends, the longest, the most.
func lists() [][]string {
	return [][]string{
		nil,
		{"a"},
		{"\x00"},
		{"ab", "\x00x"},
		{"\xff\x00\xff", "\x00\xff", "\xff", "ż"},
		{"she", "he", "hers", "his"},
		{strings.Repeat("a", api.MaxPhrase)},
		rising(api.MaxPhrase),
		singles(),
	}
}

func TestP1601EveryToken(t *testing.T) {
	for _, l := range lists() {
		d := book(t, l...)
		for token, text := range meanings(l) {
			if !mean.Right(d, token) || mean.Len(d, token) != len(text) {
				t.Errorf("%d by %.60q: %v, %d bytes, not %d", token, l, mean.Right(d, token), mean.Len(d, token), len(text))
			}
			if got, err := mean.Of(d, len(text), token); got != text || err != api.OK {
				t.Errorf("Of %d by %.60q: %q, %d, not %q", token, l, got, err, text)
			}
			for _, most := range []int{math.MinInt, -1, 0, 1, len(text) - 1, len(text) + 1, math.MaxInt} {
				holds(t, d, l, most, []int{token})
				holds(t, d, l, most, []int{token, 0})
			}
		}
	}
}

func TestP1601NoTokens(t *testing.T) {
	for _, l := range lists() {
		d := book(t, l...)
		for _, token := range outside(len(l)) {
			if mean.Right(d, token) || mean.Len(d, token) != 0 {
				t.Errorf("%d by %.60q: %v, %d bytes", token, l, mean.Right(d, token), mean.Len(d, token))
			}
			for _, most := range []int{math.MinInt, -1, 0, 1, 2, math.MaxInt} {
				holds(t, d, l, most, []int{token})
				holds(t, d, l, most, []int{97, token})
				holds(t, d, l, most, []int{97, token, 98})
				holds(t, d, l, most, []int{token, 97})
			}
		}
	}
}

// By all lists of up to four of some tokens and what is none, and all bounds up to more than they mean.
func TestP1601EveryShortList(t *testing.T) {
	l := []string{"ab", "\x00x\xff"}
	d := book(t, l...)
	some := []int{0, 255, 256, 257, 258, -1}
	lists := [][]int{nil}
	for len(lists) > 0 && len(lists[0]) <= 4 {
		tokens := lists[0]
		lists = lists[1:]
		for most := -1; most <= 13; most++ {
			holds(t, d, l, most, tokens)
		}
		for _, token := range some {
			lists = append(lists, append(slices.Clone(tokens), token))
		}
	}
}

func TestP1601Example(t *testing.T) {
	if got, err := mean.Of(book(t, "ab"), 3, 97, 256); got != "aab" || err != api.OK {
		t.Errorf("Of: %q, %d", got, err)
	}
}

// The first token that is wrong counts, and of it that there is none ahead of the size.
func TestP1601WhichErrorFirst(t *testing.T) {
	d := book(t, "ab", "abcdef")
	for _, c := range []struct {
		most   int
		tokens []int
		want   api.Errno
	}{
		{1, []int{97, 258}, api.ErrToken},      // nothing would fit, and there is none
		{0, []int{258}, api.ErrToken},          // likewise
		{-7, []int{-1}, api.ErrToken},          // likewise
		{1, []int{97, 98, 258}, api.ErrSize},   // the size is ahead of it
		{1, []int{256, -1}, api.ErrSize},       // likewise
		{9, []int{97, 258, 257}, api.ErrToken}, // it is ahead of the size
		{6, []int{97, 257, 97}, api.ErrSize},   // too much by one
		{7, []int{97, 257, 97}, api.ErrSize},   // all but the last fits
		{8, []int{97, 257, 97}, api.OK},
		{3, []int{97, 257, 97, 97}, api.ErrSize}, // what is shorter behind it does not count
	} {
		got, err := mean.Of(d, c.most, c.tokens...)
		if err != c.want || err != api.OK && got != "" {
			t.Errorf("Of %d, at most %d: %q, %d, not %d", c.tokens, c.most, got, err, c.want)
		}
	}
}

func TestP1601TheMostBelowNought(t *testing.T) {
	d := book(t, "ab")
	for _, most := range []int{0, -1, -2, -api.MaxBlock, math.MinInt + 1, math.MinInt} {
		if got, err := mean.Of(d, most); got != "" || err != api.OK {
			t.Errorf("Of nothing, at most %d: %q, %d", most, got, err)
		}
		for _, token := range []int{0, 97, 256} {
			if got, err := mean.Of(d, most, token); got != "" || err != api.ErrSize {
				t.Errorf("Of %d, at most %d: %q, %d", token, most, got, err)
			}
		}
	}
}

// A block's bytes are no bound of it.
func TestP1601OfManyTokens(t *testing.T) {
	long := strings.Repeat("z", api.MaxPhrase)
	d := book(t, "ab", long)
	for _, count := range []int{api.MaxBlock - 1, api.MaxBlock, api.MaxBlock + 1, 100 * api.MaxBlock} {
		for token, text := range map[int]string{0: "\x00", 255: "\xff", 256: "ab", 257: long} {
			want, tokens := strings.Repeat(text, count), slices.Repeat([]int{token}, count)
			for _, most := range []int{len(want), len(want) + 1, math.MaxInt} {
				if got, err := mean.Of(d, most, tokens...); got != want || err != api.OK {
					t.Errorf("Of %d times %d, at most %d: %d bytes, %d", count, token, most, len(got), err)
				}
			}
			if got, err := mean.Of(d, len(want)-1, tokens...); got != "" || err != api.ErrSize {
				t.Errorf("Of %d times %d, too many by one: %d bytes, %d", count, token, len(got), err)
			}
		}
	}
}

// What each way of parsing tells means the bytes again.
func TestP1601ParsedAndBack(t *testing.T) {
	for _, l := range lists() {
		d := book(t, l...)
		b := strings.Repeat(strings.Join(meanings(l), "")+"ushershis", 3)
		b = b[:min(len(b), api.MaxBlock)]
		for way, tokens := range [][]int{greedy.Parse(d, b), flex.Parse(d, b), best.Parse(d, b, 7), best.Parse(d, b, api.MaxBlock)} {
			if got, err := mean.Of(d, len(b), tokens...); got != b || err != api.OK {
				t.Errorf("way %d by %.60q: %.60q, %d, not %.60q", way, l, got, err, b)
			}
			if got, err := mean.Of(d, len(b)-1, tokens...); got != "" || err != api.ErrSize {
				t.Errorf("way %d by %.60q, too many by one: %.60q, %d", way, l, got, err)
			}
		}
	}
}

// Bytes alone mean something.
func TestP1601WithoutPhrases(t *testing.T) {
	for _, d := range []*dict.Dict{nil, new(dict.Dict), book(t)} {
		for token := -2; token < 260; token++ {
			right, size := token >= 0 && token < 256, 0
			if right {
				size = 1
			}
			if mean.Right(d, token) != right || mean.Len(d, token) != size {
				t.Errorf("%d: %v, %d bytes", token, mean.Right(d, token), mean.Len(d, token))
			}
			for most := range 4 {
				holds(t, d, nil, most, []int{97, token, 98})
			}
		}
	}
}

// The tokens that are handed in are left as they were, and may be changed behind the call.
func TestP1601WhatIsHandedInStays(t *testing.T) {
	d := book(t, "ab")
	tokens := []int{97, 256, 258, 98}
	first, err := mean.Of(d, 9, tokens[:2]...)
	mean.Of(d, 9, tokens...)
	if !slices.Equal(tokens, []int{97, 256, 258, 98}) {
		t.Errorf("changed: %d", tokens)
	}
	clear(tokens)
	if first != "aab" || err != api.OK {
		t.Errorf("Of: %q, %d", first, err)
	}
}
