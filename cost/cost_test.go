package cost_test

import (
	"encoding/binary"
	"math"
	"slices"
	"testing"

	"lexiphane/api"
	"lexiphane/cost"
)

const greatest = 1<<32 - 1

// edges tells tokens around the first and the last of each length, and some between.
func edges() []int {
	list := []int{0, 1, 97, 200, api.Literals - 1, api.Literals, 300, api.Literals + api.MaxPhrases, 1 << 31, greatest - 1, greatest}
	for k := 7; k < 32; k += 7 {
		list = append(list, 1<<k-1, 1<<k, 1<<k+1)
	}
	for n := 1; n < greatest; n = 2*n + n%5 {
		list = append(list, n)
	}
	return list
}

// outside tells numbers that are no token.
func outside() []int {
	return []int{-1, -2, -128, -greatest, math.MinInt, greatest + 1, greatest + 2, 1 << 35, 1 << 40, math.MaxInt}
}

// bits tells how many bits a token has as a number, by the library's way.
func bits(token int) int {
	return 8 * len(binary.AppendUvarint(nil, uint64(token)))
}

// of tells a cost of so many tokens and bits.
func of(tokens, bits int) complex128 {
	return complex(float64(tokens), float64(bits))
}

// holds holds a cost against its parts, as they stand and as they are told.
func holds(t *testing.T, what string, c complex128, tokens, bits int) {
	t.Helper()
	if c != of(tokens, bits) {
		t.Errorf("%s: %v, not %v", what, c, of(tokens, bits))
	}
	if n, m := cost.Tokens(c), cost.Bits(c); n != tokens || m != bits {
		t.Errorf("parts of %s: %d, %d, not %d, %d", what, n, m, tokens, bits)
	}
}

func TestP1201OfExample(t *testing.T) {
	holds(t, "Of(300)", cost.Of(300), 1, 16)
}

func TestP1201OfIsOneTokenAndTheBitsOfItsNumber(t *testing.T) {
	for _, token := range edges() {
		holds(t, "Of", cost.Of(token), 1, bits(token))
	}
	for k, first := range []int{0, 1 << 7, 1 << 14, 1 << 21, 1 << 28} {
		holds(t, "Of", cost.Of(first), 1, 8*(k+1))
	}
}

func TestP1201OfANumberThatIsNoneIsNothing(t *testing.T) {
	for _, n := range outside() {
		holds(t, "Of", cost.Of(n), 0, 0)
	}
}

func TestP1201SumByHand(t *testing.T) {
	holds(t, "Sum of none", cost.Sum(), 0, 0)
	holds(t, "Sum of nil", cost.Sum(nil...), 0, 0)
	holds(t, "Sum of one", cost.Sum(300), 1, 16)
	holds(t, "Sum of several", cost.Sum(97, 256, 97, 300), 4, 48)
	holds(t, "Sum of each length", cost.Sum(0, 1<<7, 1<<14, 1<<21, 1<<28), 5, 120)
}

// In whichever order, and of each beginning.
func TestP1201SumIsAllTogether(t *testing.T) {
	l := edges()
	backward := slices.Clone(l)
	slices.Reverse(backward)
	for _, list := range [][]int{l, backward} {
		together := 0
		for k, token := range list {
			holds(t, "Sum", cost.Sum(list[:k]...), k, together)
			together += bits(token)
		}
		holds(t, "Sum", cost.Sum(list...), len(list), together)
	}
}

// A number that is none adds nothing, and takes none with it.
func TestP1201SumPassesByNumbersThatAreNone(t *testing.T) {
	holds(t, "Sum", cost.Sum(outside()...), 0, 0)
	holds(t, "Sum", cost.Sum(-1, 5, -1), 1, 8)
	for _, n := range outside() {
		holds(t, "Sum", cost.Sum(n, 97, 256, n, n, 300, n), 3, 40)
	}
}

func TestP1201SumOfManyIsExact(t *testing.T) {
	const many = 1<<20 + 1
	for _, token := range []int{0, 300, greatest} {
		holds(t, "Sum", cost.Sum(slices.Repeat([]int{token}, many)...), many, many*bits(token))
	}
}

func TestP1201SumDoesNotWriteIntoItsTokens(t *testing.T) {
	given := []int{300, -1, 97, greatest, 97}
	before := slices.Clone(given)
	for range 2 {
		holds(t, "Sum", cost.Sum(given...), 4, 72)
	}
	if !slices.Equal(given, before) {
		t.Errorf("Sum wrote into its tokens: %d", given)
	}
}

// ranks tells parts of costs, small and great ones, those below 0 and those that a float just has, too.
func ranks() []int {
	return []int{-1 << 53, -1 << 40, -9, -1, 0, 1, 2, 3, 8, 16, 40, 8 * api.MaxBlock, 40*api.MaxBlock + 1, 1<<32 - 1, 1 << 40, 1<<40 + 1, 1<<53 - 1, 1 << 53}
}

func TestP1201LessByTokensThenByBits(t *testing.T) {
	for _, n := range ranks() {
		for _, m := range ranks() {
			for _, k := range ranks() {
				for _, j := range ranks() {
					want := slices.Compare([]int{n, k}, []int{m, j}) < 0
					if got := cost.Less(of(n, k), of(m, j)); got != want {
						t.Fatalf("Less(%v, %v): %v", of(n, k), of(m, j), got)
					}
				}
			}
		}
	}
}

func TestP1201LessByHand(t *testing.T) {
	below0 := math.Copysign(0, -1) // a float's other 0 is as many
	for _, x := range []struct {
		a, b complex128
		want bool
	}{
		{1 + 8i, 1 + 8i, false},
		{1 + 8i, 1 + 16i, true},
		{1 + 16i, 1 + 8i, false},
		{1 + 99i, 2, true},
		{2, 1 + 99i, false},
		{0, 8i, true},
		{8i, 1, true},
		{-1, 0, true},
		{complex(below0, 1), 0, false},
		{0, complex(below0, 1), true},
		{complex(0, below0), 0, false},
		{0, complex(0, below0), false},
	} {
		if got := cost.Less(x.a, x.b); got != x.want {
			t.Errorf("Less(%v, %v): %v", x.a, x.b, got)
		}
	}
}

func TestP1201Parts(t *testing.T) {
	for _, n := range ranks() {
		for _, m := range ranks() {
			holds(t, "a cost", of(n, m), n, m)
		}
	}
	holds(t, "a cost", 0, 0, 0)
	holds(t, "a cost", 7+9i, 7, 9)
	holds(t, "the least", complex(math.MinInt, math.MinInt), math.MinInt, math.MinInt)
}

// The chapter names no answer for parts that no int has; they are told as 0 on every machine.
func TestP1201PartsThatNoIntHas(t *testing.T) {
	for _, part := range []float64{math.NaN(), math.Inf(1), math.Inf(-1), 1 << 63, -1<<63 - 2048, 1e300, -1e300} {
		if n, m := cost.Tokens(complex(part, 5)), cost.Bits(complex(part, 5)); n != 0 || m != 5 {
			t.Errorf("parts of %v and 5: %d, %d", part, n, m)
		}
		if n, m := cost.Tokens(complex(5, part)), cost.Bits(complex(5, part)); n != 5 || m != 0 {
			t.Errorf("parts of 5 and %v: %d, %d", part, n, m)
		}
	}
}

func TestP1201Most(t *testing.T) {
	holds(t, "Most", cost.Most(), 1<<40, 1<<40)
	if cost.Less(cost.Most(), cost.Most()) {
		t.Error("Most is less than itself")
	}
	for _, count := range []int{0, 1, 2, api.MaxBlock - 1, api.MaxBlock} {
		for _, token := range append(edges(), outside()...) {
			sum := cost.Sum(slices.Repeat([]int{token}, count)...)
			if !cost.Less(sum, cost.Most()) || cost.Less(cost.Most(), sum) {
				t.Errorf("Most is not above %d times %d: %v", count, token, sum)
			}
		}
	}
}
