package vari_test

import (
	"encoding/binary"
	"math"
	"strings"
	"testing"

	"lexiphane/api"
	"lexiphane/vari"
)

const greatest = 1<<32 - 1

// edges tells numbers around each length's first and last, and some between.
func edges() []int {
	list := []int{0, 1, 2, 126, 300, 1000, 65535, 1 << 31, greatest - 1, greatest}
	for k := 7; k < 32; k += 7 {
		list = append(list, 1<<k-1, 1<<k, 1<<k+1)
	}
	for n := 1; n < greatest; n = 2*n + n%5 {
		list = append(list, n)
	}
	return list
}

// laid tells a number's bytes, by the library's way.
func laid(n int) string {
	return string(binary.AppendUvarint(nil, uint64(n)))
}

// got holds what Get answers against what is wanted.
func got(t *testing.T, b string, number, size int, code api.Errno) {
	t.Helper()
	if n, k, e := vari.Get(b); n != number || k != size || e != code {
		t.Errorf("Get(%q): %d, %d, %d, not %d, %d, %d", b, n, k, e, number, size, code)
	}
}

func TestP301PutExample(t *testing.T) {
	if b, ok := vari.Put(300); b != string([]byte{172, 2}) || !ok {
		t.Errorf("Put(300): %q, %v", b, ok)
	}
}

func TestP301PutLaysSevenBitsAByteTheLowestFirst(t *testing.T) {
	for _, n := range edges() {
		if b, ok := vari.Put(n); b != laid(n) || !ok {
			t.Errorf("Put(%d): %q, %v, not %q", n, b, ok, laid(n))
		}
	}
}

func TestP301LenTellsHowManyBytes(t *testing.T) {
	for _, n := range edges() {
		if k := vari.Len(n); k != len(laid(n)) {
			t.Errorf("Len(%d): %d, not %d", n, k, len(laid(n)))
		}
	}
}

func TestP301NumbersOutsideAreNone(t *testing.T) {
	for _, n := range []int{-1, -2, -128, -greatest, math.MinInt, greatest + 1, greatest + 2, 1 << 35, math.MaxInt} {
		if b, ok := vari.Put(n); b != "" || ok {
			t.Errorf("Put(%d): %q, %v", n, b, ok)
		}
		if k := vari.Len(n); k != 0 {
			t.Errorf("Len(%d): %d", n, k)
		}
	}
}

func TestP301GetTellsTheNumberAndItsBytes(t *testing.T) {
	for _, n := range edges() {
		b := laid(n)
		for _, behind := range []string{"", "\x00", "\x80", "\xff\xff\xff\xff\xff", "rest"} {
			got(t, b+behind, n, len(b), api.OK)
		}
	}
}

func TestP301GetTellsThatBytesLack(t *testing.T) {
	for _, n := range edges() {
		b := laid(n)
		for k := range len(b) {
			got(t, b[:k], 0, 0, api.ErrMore)
		}
	}
}

func TestP301GetRefusesAFifthByteAbove15(t *testing.T) {
	for _, first := range []string{"\x80", "\xff", "\x81"} {
		four := strings.Repeat(first, 4)
		for c := 16; c < 256; c++ {
			got(t, four+string([]byte{byte(c)}), 0, 0, api.ErrRange)
			got(t, four+string([]byte{byte(c), 0}), 0, 0, api.ErrRange)
			got(t, four+string([]byte{byte(c), 1}), 0, 0, api.ErrRange)
		}
		low := 0
		for range 4 {
			low = low<<7 | int(first[0]&127)
		}
		for c := 1; c < 16; c++ {
			got(t, four+string([]byte{byte(c)}), c<<28|low, 5, api.OK)
		}
	}
}

func TestP301GetRefusesALast0BehindOthers(t *testing.T) {
	for k := 1; k <= 4; k++ {
		for _, first := range []string{"\x80", "\xff", "\x81"} {
			got(t, strings.Repeat(first, k)+"\x00", 0, 0, api.ErrForm)
			got(t, strings.Repeat(first, k)+"\x00\x01", 0, 0, api.ErrForm)
		}
	}
	got(t, "\x00", 0, 1, api.OK)
	got(t, "\x00\x00", 0, 1, api.OK)
}

// What a byte behind would tell does not count: the leftmost fault does.
func TestP301GetGoesFromTheLeft(t *testing.T) {
	got(t, "\x80\x00\x80\x80\xff", 0, 0, api.ErrForm)
	got(t, "\x80\x80\x80\x80", 0, 0, api.ErrMore)
	got(t, "\x80\x80\x80\x80\x80", 0, 0, api.ErrRange)
	got(t, "\x80\x80\x80\x80\x80\x00", 0, 0, api.ErrRange)
	got(t, "\x80\x80\x80\x80\x10", 0, 0, api.ErrRange)
	got(t, "", 0, 0, api.ErrMore)
}

// A number has one text, and a text that is taken is the number's own.
func TestP301GetTakesJustWhatPutLays(t *testing.T) {
	for first := range 256 {
		for second := range 256 {
			b := string([]byte{byte(first), byte(second)})
			n, k, e := vari.Get(b)
			if e != api.OK {
				continue
			}
			if own, ok := vari.Put(n); !ok || own != b[:k] {
				t.Errorf("Get(%q): %d, which is %q", b, n, own)
			}
		}
	}
}
