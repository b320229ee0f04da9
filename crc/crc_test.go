package crc_test

import (
	"hash/crc32"
	"strings"
	"testing"

	"lexiphane/crc"
)

// texts tells bytes of many kinds: none, each byte alone, each pair with a 0, longer ones.
func texts() []string {
	list := []string{"", "a", "abc", "123456789", "\x00\x00\x00\x00", "\xff\xff\xff\xff", "żółć \xff\xfe", strings.Repeat("\x00", 1000), strings.Repeat("\xff", 1025)}
	all := ""
	for c := range 256 {
		one := string([]byte{byte(c)})
		list = append(list, one, one+"\x00", "\x00"+one)
		all += one
	}
	return append(list, all, strings.Repeat(all, 300))
}

// known tells the sum by the library's way.
func known(b string) uint32 {
	return crc32.ChecksumIEEE([]byte(b))
}

// now holds what Now answers against what is wanted.
func now(t *testing.T, what string, s *crc.Sum, want uint32) {
	t.Helper()
	if got := s.Now(); got != want {
		t.Errorf("%s: Now(): %#x, not %#x", what, got, want)
	}
}

func TestP401OfExample(t *testing.T) {
	if got := crc.Of("123456789"); got != 0xCBF43926 {
		t.Errorf("Of: %#x", got)
	}
}

func TestP401OfIsTheSumOfTheBytes(t *testing.T) {
	for _, b := range texts() {
		if got := crc.Of(b); got != known(b) {
			t.Errorf("Of(%.20q): %#x, not %#x", b, got, known(b))
		}
	}
}

func TestP401AZeroSumIsReady(t *testing.T) {
	for _, b := range texts() {
		var s crc.Sum
		now(t, "of nothing", &s, 0)
		s.Add(b)
		now(t, "of one text", &s, known(b))
	}
}

// Wherever the bytes are cut, and asked in between, the sum is that of all of them.
func TestP401AddGoesOnInPieces(t *testing.T) {
	b := "a text that is cut \x00\xff\x80"
	for i := range len(b) + 1 {
		for j := i; j <= len(b); j++ {
			var s crc.Sum
			s.Add(b[:i])
			now(t, "first piece", &s, known(b[:i]))
			s.Add(b[i:j])
			now(t, "second piece", &s, known(b[:j]))
			s.Add(b[j:])
			now(t, "last piece", &s, known(b))
		}
	}
}

func TestP401NowChangesNothing(t *testing.T) {
	var s crc.Sum
	s.Add("12345")
	for range 3 {
		now(t, "asked again", &s, known("12345"))
	}
	s.Add("6789")
	now(t, "gone on", &s, known("123456789"))
}

func TestP401AddOfNothingChangesNothing(t *testing.T) {
	var s crc.Sum
	s.Add("")
	now(t, "nothing at first", &s, 0)
	s.Add("x")
	s.Add("")
	now(t, "nothing behind", &s, known("x"))
}

func TestP401ResetForgets(t *testing.T) {
	var s crc.Sum
	s.Reset()
	now(t, "reset at first", &s, 0)
	for _, b := range texts() {
		s.Add(b)
		now(t, "since Reset", &s, known(b))
		s.Reset()
		now(t, "just reset", &s, 0)
	}
}

func TestP401SumsHangOnTheirOwnBytes(t *testing.T) {
	var one, other crc.Sum
	one.Add("one")
	other.Add("other")
	one.Add(" more")
	copied := one
	copied.Add("!")
	now(t, "one", &one, known("one more"))
	now(t, "other", &other, known("other"))
	now(t, "copied", &copied, known("one more!"))
	one.Reset()
	now(t, "other behind a reset", &other, known("other"))
}

func TestP401ANilSumIs0(t *testing.T) {
	var s *crc.Sum
	now(t, "nil", s, 0)
	s.Add("bytes")
	now(t, "nil, added to", s, 0)
	s.Reset()
	now(t, "nil, reset", s, 0)
}
