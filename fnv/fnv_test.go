package fnv_test

import (
	library "hash/fnv"
	"strings"
	"testing"

	"lexiphane/fnv"
)

const (
	nothing = 14695981039346656037               // the name of no bytes
	zero    = "\xd5\x6b\xb9\x53\x42\x87\x08\x36" // bytes whose name is 0
)

// texts tells bytes of many kinds: none, each byte alone, each with a 0, longer ones.
func texts() []string {
	list := []string{"", "a", "abc", "foobar", "\x00\x00\x00\x00", "\xff\xff\xff\xff", "żółć \xff\xfe", zero, zero + "\x00", strings.Repeat("\x00", 1000), strings.Repeat("\xff", 1025)}
	all := ""
	for c := range 256 {
		one := string([]byte{byte(c)})
		list = append(list, one, one+"\x00", "\x00"+one)
		all += one
	}
	return append(list, all, strings.Repeat(all, 300))
}

// known tells the name by the library's way.
func known(b string) uint64 {
	h := library.New64a()
	h.Write([]byte(b))
	return h.Sum64()
}

// now holds what Now answers against what is wanted.
func now(t *testing.T, what string, h *fnv.Hash, want uint64) {
	t.Helper()
	if got := h.Now(); got != want {
		t.Errorf("%s: Now(): %#x, not %#x", what, got, want)
	}
}

func TestP501OfExamples(t *testing.T) {
	for _, x := range []struct {
		b    string
		want uint64
	}{
		{"", nothing},
		{"a", 0xaf63dc4c8601ec8c}, // FNV-1: 0xaf63bd4c8601b7be
		{"foobar", 0x85944171f73967e8},
		{zero, 0},
		{zero + "\x00", 0},
		{zero + "\x01", 1099511628211},
	} {
		if got := fnv.Of(x.b); got != x.want {
			t.Errorf("Of(%q): %#x, not %#x", x.b, got, x.want)
		}
	}
}

func TestP501OfIsTheNameOfTheBytes(t *testing.T) {
	for _, b := range texts() {
		if got := fnv.Of(b); got != known(b) {
			t.Errorf("Of(%.20q): %#x, not %#x", b, got, known(b))
		}
	}
}

func TestP501AZeroHashIsReady(t *testing.T) {
	for _, b := range texts() {
		var h fnv.Hash
		now(t, "of nothing", &h, nothing)
		h.Add(b)
		now(t, "of one text", &h, known(b))
	}
}

// Wherever the bytes are cut, and asked in between, the name is that of all of them.
func TestP501AddGoesOnInPieces(t *testing.T) {
	b := "a text that is cut \x00\xff\x80"
	for i := range len(b) + 1 {
		for j := i; j <= len(b); j++ {
			var h fnv.Hash
			h.Add(b[:i])
			now(t, "first piece", &h, known(b[:i]))
			h.Add(b[i:j])
			now(t, "second piece", &h, known(b[:j]))
			h.Add(b[j:])
			now(t, "last piece", &h, known(b))
		}
	}
}

// A name that has come to 0 goes on from 0, it does not begin anew.
func TestP501AddGoesOnFromANameOf0(t *testing.T) {
	var h fnv.Hash
	h.Add(zero)
	now(t, "come to 0", &h, 0)
	h.Add("")
	now(t, "nothing behind 0", &h, 0)
	h.Add("\x00")
	now(t, "a 0 behind 0", &h, 0)
	h.Add("more")
	now(t, "gone on", &h, known(zero+"\x00more"))
}

func TestP501NowChangesNothing(t *testing.T) {
	var h fnv.Hash
	h.Add("foo")
	for range 3 {
		now(t, "asked again", &h, known("foo"))
	}
	h.Add("bar")
	now(t, "gone on", &h, known("foobar"))
}

func TestP501AddOfNothingChangesNothing(t *testing.T) {
	var h fnv.Hash
	h.Add("")
	now(t, "nothing at first", &h, nothing)
	h.Add("x")
	h.Add("")
	now(t, "nothing behind", &h, known("x"))
}

func TestP501HashesHangOnTheirOwnBytes(t *testing.T) {
	var one, other fnv.Hash
	one.Add("one")
	other.Add("other")
	one.Add(" more")
	copied := one
	copied.Add("!")
	now(t, "one", &one, known("one more"))
	now(t, "other", &other, known("other"))
	now(t, "copied", &copied, known("one more!"))
	if got := fnv.Of("one"); got != known("one") {
		t.Errorf("Of behind other calls: %#x, not %#x", got, known("one"))
	}
}

func TestP501ANilHashIs0(t *testing.T) {
	var h *fnv.Hash
	now(t, "nil", h, 0)
	h.Add("bytes")
	now(t, "nil, added to", h, 0)
}
