package bits_test

import (
	"fmt"
	"math"
	"strings"
	"testing"

	"lexiphane/bits"
)

// digits tells the n bits of v as digits, by a way of its own.
func digits(v, n int) string {
	if n == 0 {
		return ""
	}
	return fmt.Sprintf("%0*b", n, v)
}

// number tells the number that digits are.
func number(d string) int {
	v := 0
	for _, c := range d {
		v = 2*v + int(c-'0')
	}
	return v
}

// pack tells digits as whole bytes, with 0s behind the last.
func pack(d string) string {
	var b strings.Builder
	for d += strings.Repeat("0", (8-len(d)%8)%8); d != ""; d = d[8:] {
		b.WriteByte(byte(number(d[:8])))
	}
	return b.String()
}

// unpack tells bytes as digits.
func unpack(b string) string {
	d := ""
	for i := range len(b) {
		d += digits(int(b[i]), 8)
	}
	return d
}

// draw tells numbers that look like chance, but are the same in each run.
func draw(seed uint64) func(below int) int {
	return func(below int) int {
		seed ^= seed << 13
		seed ^= seed >> 7
		seed ^= seed << 17
		return int(seed % uint64(below))
	}
}

// written holds a writer against the digits that it should have.
func written(t *testing.T, w *bits.Writer, want string) {
	t.Helper()
	if w.Len() != len(want) || w.Bytes() != pack(want) {
		t.Fatalf("%d bits %q, not %d bits %q", w.Len(), w.Bytes(), len(want), pack(want))
	}
}

// left holds a reader against the digits that should be left, by calls with which nothing goes.
func left(t *testing.T, r *bits.Reader, want string) {
	t.Helper()
	if r.Left() != len(want) {
		t.Fatalf("%d left, not %d", r.Left(), len(want))
	}
	if is := len(want) < 8 && !strings.Contains(want, "1"); r.Rest() != is {
		t.Fatalf("Rest %t of %q", r.Rest(), want)
	}
	padded := want + strings.Repeat("0", 32)
	for n := range 33 {
		if v := r.Peek(n); v != number(padded[:n]) {
			t.Fatalf("Peek(%d) %d, not %d, of %q", n, v, number(padded[:n]), want)
		}
	}
}

// wrongCounts are counts of bits that no call takes (Skip takes the great ones, where there are so many).
var wrongCounts = []int{-1, -8, -32, -33, -64, math.MinInt32, math.MinInt, 33, 34, 40, 63, 64, 65, 256, math.MaxInt32, math.MaxInt}

func TestP201ZeroWriterIsReady(t *testing.T) {
	var w bits.Writer
	written(t, &w, "")
	if !w.Put(5, 3) || w.Bytes() != "\xa0" || w.Len() != 3 {
		t.Errorf("%d bits %q", w.Len(), w.Bytes())
	}
	written(t, new(bits.Writer), "")
}

func TestP201PutWritesGreatestFirst(t *testing.T) {
	var w bits.Writer
	want := ""
	put := []struct{ v, n int }{{1, 1}, {0, 1}, {6, 3}, {0, 0}, {1, 3}, {255, 8}, {0, 8}, {0x8001, 16}, {1, 7}, {0xdeadbeef, 32}, {0, 32}, {1<<32 - 1, 32}, {1, 32}, {1 << 31, 32}, {0, 0}}
	for _, p := range put {
		if !w.Put(p.v, p.n) {
			t.Fatalf("Put(%d, %d) is false", p.v, p.n)
		}
		want += digits(p.v, p.n)
		written(t, &w, want)
	}
}

func TestP201PutTakesEachCountAtEachPlace(t *testing.T) {
	for at := range 17 {
		for n := range 33 {
			for _, v := range []int{0, 1<<n - 1, 1 << n / 2, (1<<n - 1) & 0x55555555} {
				var w bits.Writer
				want := strings.Repeat("1", at)
				for range at {
					w.Put(1, 1)
				}
				if !w.Put(v, n) || !w.Put(5, 3) {
					t.Fatalf("Put(%d, %d) is false at %d", v, n, at)
				}
				written(t, &w, want+digits(v, n)+"101")
			}
		}
	}
}

func TestP201PutRefusesAndWritesNothing(t *testing.T) {
	for at := range 10 {
		var w bits.Writer
		w.Put(1<<at-1, at)
		want := strings.Repeat("1", at)
		for _, n := range wrongCounts {
			for _, v := range []int{0, 1, -1, 7, math.MaxInt, math.MinInt} {
				if w.Put(v, n) {
					t.Errorf("Put(%d, %d) is true", v, n)
				}
				written(t, &w, want)
			}
		}
		for n := range 33 {
			for _, v := range []int{1 << n, 1<<n + 1, 1 << 33, 1 << 62, math.MaxInt, -1, -2, -1 << n, math.MinInt32, math.MinInt} {
				if w.Put(v, n) {
					t.Errorf("Put(%d, %d) is true", v, n)
				}
				written(t, &w, want)
			}
		}
		w.Put(2, 2)
		written(t, &w, want+"10")
	}
}

func TestP201BytesStandAndBitsGoOn(t *testing.T) {
	var w bits.Writer
	w.Put(5, 3)
	early := w.Bytes()
	for range 100 {
		w.Put(31, 5)
		w.Bytes()
	}
	if early != "\xa0" {
		t.Errorf("%q changed behind the call", early)
	}
	written(t, &w, "101"+strings.Repeat("1", 500))
}

func TestP201WritersAreApart(t *testing.T) {
	var a, b bits.Writer
	a.Put(1, 1)
	b.Put(0, 2)
	a.Put(3, 9)
	written(t, &a, "1000000011")
	written(t, &b, "00")
}

func TestP201NilWriter(t *testing.T) {
	var w *bits.Writer
	if w.Put(0, 0) || w.Put(1, 1) || w.Put(0, 33) || w.Len() != 0 || w.Bytes() != "" {
		t.Error("a nil Writer takes bits")
	}
}

func TestP202NewReaderHasAllBits(t *testing.T) {
	for _, b := range []string{"", "\x00", "\x01", "\x80", "\xff", "\x00\x00", "\xa1\x89\x1a\x2b\x3c\x4d\x5e", "abc\xff\x00\xfe"} {
		r := bits.NewReader(b)
		if r == nil {
			t.Fatalf("no reader of %q", b)
		}
		left(t, r, unpack(b))
	}
}

func TestP202GetEachCountAtEachPlace(t *testing.T) {
	text := "\xa1\x89\x1a\x2b\x3c\x4d\xff\x00"
	all := unpack(text)
	for at := range len(all) + 1 {
		for n := range 33 {
			r := bits.NewReader(text)
			r.Skip(at)
			v, is := r.Get(n)
			if at+n > len(all) {
				if v != 0 || is {
					t.Fatalf("Get(%d) at %d: %d, %t", n, at, v, is)
				}
				left(t, r, all[at:])
				continue
			}
			if v != number(all[at:at+n]) || !is {
				t.Fatalf("Get(%d) at %d: %d, %t, not %d", n, at, v, is, number(all[at:at+n]))
			}
			left(t, r, all[at+n:])
		}
	}
}

func TestP202WrongCountsGetNothing(t *testing.T) {
	text := strings.Repeat("\xff\x5a", 20)
	all := unpack(text)
	for _, at := range []int{0, 1, 7, 8, 300, len(all)} {
		r := bits.NewReader(text)
		r.Skip(at)
		for _, n := range wrongCounts {
			if v, is := r.Get(n); v != 0 || is {
				t.Errorf("Get(%d): %d, %t", n, v, is)
			}
			if v := r.Peek(n); v != 0 {
				t.Errorf("Peek(%d): %d", n, v)
			}
			left(t, r, all[at:])
		}
	}
}

func TestP202SkipTakesAnyCountThatIsLeft(t *testing.T) {
	text := strings.Repeat("\xff\x5a", 20)
	all := unpack(text)
	for _, at := range []int{0, 3, 280, len(all)} {
		for n := range len(all) - at + 1 {
			r := bits.NewReader(text)
			if !r.Skip(at) || !r.Skip(n) {
				t.Fatalf("Skip(%d), Skip(%d) is false", at, n)
			}
			left(t, r, all[at+n:])
		}
	}
}

func TestP202SkipRefusesAndNothingGoes(t *testing.T) {
	for _, text := range []string{"", "\xff", "\xff\x5a\x81"} {
		all := unpack(text)
		for at := range len(all) + 1 {
			r := bits.NewReader(text)
			r.Skip(at)
			for _, n := range []int{len(all) - at + 1, len(all) - at + 8, 1 << 33, math.MaxInt - 7, math.MaxInt, -1, -8, math.MinInt} {
				if r.Skip(n) {
					t.Errorf("Skip(%d) at %d of %q is true", n, at, text)
				}
				left(t, r, all[at:])
			}
		}
	}
}

func TestP202Rest(t *testing.T) {
	for v := range 256 {
		for at := range 17 {
			text := "\xff" + string([]byte{byte(v)})
			r := bits.NewReader(text)
			r.Skip(at)
			want := at > 8 && v<<(at-8)&255 == 0
			if r.Rest() != want {
				t.Errorf("Rest of %q at %d is %t", text, at, r.Rest())
			}
		}
	}
	if !bits.NewReader("").Rest() {
		t.Error("Rest of no bits is false")
	}
}

func TestP202NilAndZeroReader(t *testing.T) {
	var none *bits.Reader
	for _, n := range append([]int{0, 1, 8, 32}, wrongCounts...) {
		if v, is := none.Get(n); v != 0 || is || none.Peek(n) != 0 || none.Skip(n) {
			t.Errorf("a nil Reader has %d bits", n)
		}
	}
	if none.Left() != 0 || none.Rest() {
		t.Error("a nil Reader is not false, 0")
	}
	left(t, new(bits.Reader), "")
}

func TestP202ReadersAreApart(t *testing.T) {
	a, b := bits.NewReader("\x81"), bits.NewReader("\x81")
	a.Get(5)
	left(t, a, "001")
	left(t, b, "10000001")
}

func TestP201P202WhatIsPutIsGot(t *testing.T) {
	next := draw(88172645463325252)
	for range 200 {
		var w bits.Writer
		var put [][2]int
		want := ""
		for range next(60) {
			n := next(33)
			v := next(1 << n)
			put = append(put, [2]int{v, n})
			w.Put(v, n)
			want += digits(v, n)
		}
		written(t, &w, want)
		r := bits.NewReader(w.Bytes())
		for _, p := range put {
			if look := r.Peek(p[1]); look != p[0] {
				t.Fatalf("Peek(%d) %d, not %d", p[1], look, p[0])
			}
			if v, is := r.Get(p[1]); v != p[0] || !is {
				t.Fatalf("Get(%d) %d, %t, not %d", p[1], v, is, p[0])
			}
		}
		if !r.Rest() {
			t.Fatal("more than the end is left")
		}
	}
}
