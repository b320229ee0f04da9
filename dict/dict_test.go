package dict_test

import (
	"encoding/binary"
	library "hash/fnv"
	"math"
	"slices"
	"strings"
	"testing"

	"lexiphane/api"
	"lexiphane/dict"
	"lexiphane/fault"
)

// number tells a number's bytes, by the library's way.
func number(n int) string { return string(binary.AppendUvarint(nil, uint64(n))) }

// laid tells the bytes of a dictionary of these phrases.
func laid(l ...string) string {
	b := number(len(l))
	for _, s := range l {
		b += number(len(s)) + s
	}
	return b
}

// name tells the name of bytes, by the library's way.
func name(b string) uint64 {
	h := library.New64a()
	h.Write([]byte(b))
	return h.Sum64()
}

// phrases tells count phrases of size bytes each (2 or more), each of its own beginning.
func phrases(count, size int) []string {
	var l []string
	for k := range count {
		l = append(l, string([]byte{byte(k), byte(k >> 8)})+strings.Repeat("x", size-2))
	}
	return l
}

// join tells a new list of all these.
func join(l []string, more ...string) []string { return append(slices.Clone(l), more...) }

// good tells lists that New takes: none, one, each byte, the longest, the most.
func good() [][]string {
	var bytes []string
	for c := range api.MaxPhrases {
		bytes = append(bytes, string([]byte{byte(c * 255 / (api.MaxPhrases - 1))}))
	}
	fill := api.MaxBytes / api.MaxPhrase
	return [][]string{
		nil,
		{"a"},
		{"\x00"},
		{"\xff", "\x00", "\x80\xfe", "ż"},
		{"ab", "c", "abc"},
		{"abc", "c", "ab"},
		{"z", "y", "a", "aa", "aaa", "A", "a ", " a", "a\x00"},
		{strings.Repeat("x", api.MaxPhrase), strings.Repeat("x", api.MaxPhrase-1)},
		bytes,
		phrases(api.MaxPhrases, api.MaxBytes/api.MaxPhrases),
		phrases(fill, api.MaxPhrase),
		join(phrases(fill-1, api.MaxPhrase), strings.Repeat("y", api.MaxPhrase-1), "y"),
	}
}

// made tells New's dictionary of phrases that it must take.
func made(t *testing.T, l ...string) *dict.Dict {
	t.Helper()
	d, err := dict.New(l...)
	if d == nil || err != nil {
		t.Fatalf("New(%.60q): %v, %v", l, d, err)
	}
	return d
}

// holds asks every call of a dictionary that has just these phrases.
func holds(t *testing.T, d *dict.Dict, l []string) {
	t.Helper()
	if d.Len() != len(l) {
		t.Fatalf("Len(): %d, not %d", d.Len(), len(l))
	}
	if got := d.All(); !slices.Equal(got, l) {
		t.Errorf("All(): %q, not %q", got, l)
	}
	for k, s := range l {
		if got, ok := d.At(k); got != s || !ok {
			t.Errorf("At(%d): %q, %v, not %q", k, got, ok, s)
		}
		if got, ok := d.Find(s); got != k || !ok {
			t.Errorf("Find(%q): %d, %v, not %d", s, got, ok, k)
		}
	}
	if got := d.Bytes(); got != laid(l...) {
		t.Errorf("Bytes(): %q, not %q", got, laid(l...))
	}
	if got := d.Id(); got != name(laid(l...)) {
		t.Errorf("Id(): %d, not %d", got, name(laid(l...)))
	}
}

// refused holds what New or Load answered against a fault, beside which there is no dictionary.
func refused(t *testing.T, what string, d *dict.Dict, err error, code api.Errno, at int) {
	t.Helper()
	want := fault.Fault{Code: code, At: at}
	if got, ok := fault.Of(err); d != nil || !ok || got != want {
		t.Errorf("%.60q: %v, %v, not %v", what, d, err, want)
	}
}

func badNew(t *testing.T, code api.Errno, at int, l ...string) {
	t.Helper()
	d, err := dict.New(l...)
	refused(t, "New of "+strings.Join(l, ","), d, err, code, at)
}

func badLoad(t *testing.T, code api.Errno, at int, b string) {
	t.Helper()
	d, err := dict.Load(b)
	refused(t, "Load of "+b, d, err, code, at)
}

func TestP601NewHasThePhrasesInTheirOrder(t *testing.T) {
	for _, l := range good() {
		holds(t, made(t, l...), l)
	}
}

func TestP601NewOfNone(t *testing.T) {
	d := made(t)
	holds(t, d, nil)
	if d.Bytes() != "\x00" {
		t.Errorf("Bytes of none: %q", d.Bytes())
	}
}

func TestP601NewRefusesTooManyAheadOfAllElse(t *testing.T) {
	most := phrases(api.MaxPhrases, 2)
	badNew(t, api.ErrSize, api.MaxPhrases, join(most, "one more")...)
	badNew(t, api.ErrSize, api.MaxPhrases, join(most, "")...)
	badNew(t, api.ErrSize, api.MaxPhrases, join(most, most...)...)
	badNew(t, api.ErrSize, api.MaxPhrases, join([]string{""}, most...)...)
	badNew(t, api.ErrSize, api.MaxPhrases, join([]string{strings.Repeat("x", 41)}, most...)...)
	badNew(t, api.ErrSize, api.MaxPhrases, make([]string, 1000)...)
}

func TestP601NewRefusesAnEmptyPhrase(t *testing.T) {
	badNew(t, api.ErrDict, 0, "")
	badNew(t, api.ErrDict, 0, "", "a")
	badNew(t, api.ErrDict, 1, "a", "")
	badNew(t, api.ErrDict, 2, "a", "b", "", "c", "")
	full := phrases(api.MaxBytes/api.MaxPhrase, api.MaxPhrase)
	badNew(t, api.ErrDict, len(full), join(full, "")...)
	badNew(t, api.ErrDict, 0, make([]string, api.MaxPhrases)...)
}

func TestP601NewRefusesALongPhrase(t *testing.T) {
	long := strings.Repeat("x", api.MaxPhrase+1)
	badNew(t, api.ErrSize, 0, long)
	badNew(t, api.ErrSize, 1, "a", long)
	badNew(t, api.ErrSize, 1, "a", long, long)
	badNew(t, api.ErrSize, 0, strings.Repeat("x", api.MaxBytes+1))
	badNew(t, api.ErrSize, 0, strings.Repeat("x", 1<<20))
	made(t, long[1:])
}

func TestP601NewRefusesTooManyBytes(t *testing.T) {
	full := phrases(api.MaxBytes/api.MaxPhrase, api.MaxPhrase)
	made(t, full...)
	badNew(t, api.ErrSize, len(full), join(full, "b")...)
	badNew(t, api.ErrSize, len(full), join(full, "b", "", "b")...)
	// The size counts ahead of a phrase being there already.
	badNew(t, api.ErrSize, len(full), join(full, full[3])...)
	short := join(full[1:], "b", strings.Repeat("y", api.MaxPhrase-2))
	made(t, short...)
	made(t, join(short, "y")...)
	badNew(t, api.ErrSize, len(short), join(short, "yy")...)
	badNew(t, api.ErrSize, api.MaxPhrases-1, join(phrases(api.MaxPhrases-1, 10), "elevenbytes")...)
}

func TestP601NewRefusesAPhraseThatIsThereAlready(t *testing.T) {
	badNew(t, api.ErrDict, 1, "a", "a")
	badNew(t, api.ErrDict, 2, "a", "b", "a")
	badNew(t, api.ErrDict, 3, "a", "b", "ab", "b", "a")
	badNew(t, api.ErrDict, 1, "\x00\xff", "\x00\xff")
	most := phrases(api.MaxPhrases-1, 10)
	badNew(t, api.ErrDict, len(most), join(most, most[0])...)
	badNew(t, api.ErrDict, len(most), join(most, most[len(most)-1])...)
}

// The first phrase that is wrong counts, whatever is wrong with those behind it.
func TestP601NewGoesFromTheLeft(t *testing.T) {
	long := strings.Repeat("x", api.MaxPhrase+1)
	badNew(t, api.ErrDict, 1, "a", "", long)
	badNew(t, api.ErrSize, 1, "a", long, "")
	badNew(t, api.ErrDict, 1, "a", "a", long)
	badNew(t, api.ErrSize, 1, "a", long, "a")
	badNew(t, api.ErrDict, 1, "a", "a", "")
}

func TestP601NewKeepsNothingOfTheList(t *testing.T) {
	l := []string{"ab", "c", "abc"}
	d := made(t, l...)
	if !slices.Equal(l, []string{"ab", "c", "abc"}) {
		t.Errorf("New wrote into its list: %q", l)
	}
	l[0], l[2] = "z", ""
	holds(t, d, []string{"ab", "c", "abc"})
}

func TestP601BytesAndIdExamples(t *testing.T) {
	d := made(t, "ab", "c", "abc")
	if got := d.Bytes(); got != "\x03\x02ab\x01c\x03abc" {
		t.Errorf("Bytes(): %q", got)
	}
	if got := made(t).Id(); got != 0xaf63bd4c8601b7df {
		t.Errorf("Id of none: %#x", got)
	}
	if made(t, "a", "b").Id() == made(t, "b", "a").Id() {
		t.Errorf("Id does not hang on the order")
	}
	if made(t, "a", "b").Id() == made(t, "ab").Id() {
		t.Errorf("Id does not hang on where a phrase ends")
	}
}

func TestP601LoadIsBytesTurnedRound(t *testing.T) {
	for _, l := range good() {
		d, err := dict.Load(laid(l...))
		if err != nil {
			t.Fatalf("Load of the bytes of %.60q: %v", l, err)
		}
		holds(t, d, l)
	}
}

// Of all short bytes just those are loaded that Bytes tells.
func TestP601LoadTakesJustWhatBytesTells(t *testing.T) {
	const letters = "\x00\x01\x02\x03\x80a"
	taken := 0
	var all func(b string)
	all = func(b string) {
		d, err := dict.Load(b)
		if err == nil {
			taken++
			if d.Bytes() != b {
				t.Errorf("Load(%q) has the bytes %q", b, d.Bytes())
			}
		} else if _, ok := fault.Of(err); d != nil || !ok {
			t.Errorf("Load(%q): %v, %v", b, d, err)
		}
		if len(b) < 6 {
			for _, c := range []byte(letters) {
				all(b + string([]byte{c}))
			}
		}
	}
	all("")
	// Of none; of one of 1, 2 or 3 letters; of two of 1 letter that differ, of 1 and 2, of 2 and 1.
	if want := 1 + 6 + 36 + 216 + 6*5 + 6*36 + 36*6; taken != want {
		t.Errorf("%d texts were taken, not %d", taken, want)
	}
}

func TestP601LoadTellsNumbersThatAreNone(t *testing.T) {
	badLoad(t, api.ErrMore, 0, "")
	badLoad(t, api.ErrMore, 0, "\x80")
	badLoad(t, api.ErrForm, 0, "\x80\x00")
	badLoad(t, api.ErrForm, 0, "\x81\x00\x01a")
	badLoad(t, api.ErrRange, 0, "\xff\xff\xff\xff\xff")
	badLoad(t, api.ErrRange, 0, "\x80\x80\x80\x80\x10\x01a")
	badLoad(t, api.ErrMore, 1, "\x01")
	badLoad(t, api.ErrMore, 1, "\x01\x80")
	badLoad(t, api.ErrForm, 1, "\x01\x80\x00")
	badLoad(t, api.ErrForm, 1, "\x01\x81\x00a")
	badLoad(t, api.ErrRange, 1, "\x01\xff\xff\xff\xff\x10")
	badLoad(t, api.ErrMore, 3, "\x02\x01a")
	badLoad(t, api.ErrForm, 3, "\x02\x01a\x81\x00b")
	badLoad(t, api.ErrRange, 4, "\x02\x02ab\xff\xff\xff\xff\x7f")
}

func TestP601LoadTellsBytesThatLack(t *testing.T) {
	badLoad(t, api.ErrMore, 2, "\x01\x01")
	badLoad(t, api.ErrMore, 2, "\x01\x03ab")
	badLoad(t, api.ErrMore, 4, "\x02\x01a\x02b")
	badLoad(t, api.ErrMore, 3, "\x01\x80\x01"+strings.Repeat("x", 127))
	badLoad(t, api.ErrMore, 6, "\x01\xff\xff\xff\xff\x0f")
	badLoad(t, api.ErrMore, 6, "\x01\xff\xff\xff\xff\x0f"+strings.Repeat("x", 5000))
	badLoad(t, api.ErrMore, 7, "\xff\xff\xff\xff\x0f\x01a")
}

// Wherever the bytes of a dictionary are cut off, the number or the phrase that is not whole is told.
func TestP601LoadTellsWhereBytesAreCutOff(t *testing.T) {
	for _, l := range good() {
		b := laid(l...)
		begins := []int{0}
		at := 1
		for _, s := range l {
			begins = append(begins, at, at+1)
			at += 1 + len(s)
		}
		for cut := range len(b) {
			k, ok := slices.BinarySearch(begins, cut)
			if !ok {
				k--
			}
			badLoad(t, api.ErrMore, begins[k], b[:cut])
		}
	}
}

func TestP601LoadTellsBytesBehind(t *testing.T) {
	for _, l := range good() {
		b := laid(l...)
		for _, more := range []string{"\x00", "\x80", "x", b} {
			badLoad(t, api.ErrBehind, len(b), b+more)
		}
	}
	badLoad(t, api.ErrBehind, 301, number(100)+laid(phrases(101, 2)...)[1:])
}

// What New would refuse counts only if the bytes are whole, and none is behind.
func TestP601LoadTellsNewsFaultsLast(t *testing.T) {
	badLoad(t, api.ErrDict, 0, "\x01\x00")
	badLoad(t, api.ErrDict, 1, "\x02\x01a\x00")
	badLoad(t, api.ErrDict, 1, "\x02\x01a\x01a")
	badLoad(t, api.ErrSize, 0, laid(strings.Repeat("x", 41)))
	badLoad(t, api.ErrSize, 1, laid("a", strings.Repeat("x", 128)))
	full := phrases(api.MaxBytes/api.MaxPhrase, api.MaxPhrase)
	badLoad(t, api.ErrSize, len(full), laid(join(full, "b")...))
	badLoad(t, api.ErrDict, len(full), laid(join(full, "")...))
	badLoad(t, api.ErrMore, 3, "\x02\x00\x01")
	badLoad(t, api.ErrForm, 4, "\x03\x01a\x00\x80\x00")
	badLoad(t, api.ErrBehind, 5, "\x02\x01a\x01a\x01")
	badLoad(t, api.ErrBehind, 2, "\x01\x00x")
}

func TestP601LoadRefusesTooManyPhrases(t *testing.T) {
	for _, count := range []int{101, 102, 128, 300} {
		b := laid(phrases(count, 2)...)
		badLoad(t, api.ErrSize, api.MaxPhrases, b)
		badLoad(t, api.ErrBehind, len(b), b+"\x00")
		badLoad(t, api.ErrMore, len(b)-2, b[:len(b)-1])
	}
	badLoad(t, api.ErrSize, api.MaxPhrases, number(101)+strings.Repeat("\x00", 101))
	badLoad(t, api.ErrSize, api.MaxPhrases, number(1<<20)+strings.Repeat("\x00", 1<<20))
}

func TestP602AtOfOtherPlaces(t *testing.T) {
	for _, l := range good() {
		d := made(t, l...)
		for _, k := range []int{-1, -len(l) - 1, len(l), len(l) + 1, api.Literals, math.MinInt, math.MaxInt} {
			if s, ok := d.At(k); s != "" || ok {
				t.Errorf("At(%d) of %d: %q, %v", k, len(l), s, ok)
			}
		}
	}
}

func TestP602FindOfOtherTexts(t *testing.T) {
	d := made(t, "zz", "ab", "c", "abc\x00")
	for _, s := range []string{"", "a", "b", "z", "zzz", "abc", "abc\x00\x00", "C", "AB", " c", "\x00", strings.Repeat("c", 1000)} {
		if k, ok := d.Find(s); k != 0 || ok {
			t.Errorf("Find(%.20q): %d, %v", s, k, ok)
		}
	}
	if k, ok := made(t).Find(""); k != 0 || ok {
		t.Errorf("Find of no phrase in none: %d, %v", k, ok)
	}
}

func TestP602AllIsNewEachTime(t *testing.T) {
	l := []string{"ab", "c", "abc"}
	d := made(t, l...)
	one, other := d.All(), d.All()
	one[0], one[2] = "z", ""
	_ = append(one[:1], "y")
	if !slices.Equal(other, l) {
		t.Errorf("two answers share memory: %q", other)
	}
	holds(t, d, l)
}

func TestP602DictionariesHangOnTheirOwnPhrases(t *testing.T) {
	one := made(t, "a", "b")
	other := made(t, "b", "c", "a")
	badNew(t, api.ErrDict, 1, "a", "a")
	holds(t, one, []string{"a", "b"})
	holds(t, other, []string{"b", "c", "a"})
}

func TestP602ANilDictHasNothing(t *testing.T) {
	var d *dict.Dict
	if d.Bytes() != "" || d.Id() != 0 || d.Len() != 0 || len(d.All()) != 0 {
		t.Errorf("nil: %q, %d, %d, %q", d.Bytes(), d.Id(), d.Len(), d.All())
	}
	for _, k := range []int{-1, 0, 1} {
		if s, ok := d.At(k); s != "" || ok {
			t.Errorf("nil At(%d): %q, %v", k, s, ok)
		}
	}
	for _, s := range []string{"", "a"} {
		if k, ok := d.Find(s); k != 0 || ok {
			t.Errorf("nil Find(%q): %d, %v", s, k, ok)
		}
	}
}
