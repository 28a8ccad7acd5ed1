package kara_test

import (
	"math"
	"math/big"
	"math/rand/v2"
	"slices"
	"testing"

	"astrolabe/kara"
	"astrolabe/nat"
)

func toBig(a []uint32) *big.Int {
	n := new(big.Int)
	for i := len(a) - 1; i >= 0; i-- {
		n.Lsh(n, 32)
		n.Or(n, big.NewInt(int64(a[i])))
	}
	return n
}

// digits makes a list of n digits, of runs of zeros, of ones, and of others; some end in zeros.
func digits(r *rand.Rand, n int) []uint32 {
	a := make([]uint32, n)
	kind := 0
	for i := range a {
		if i%5 == 0 {
			kind = r.IntN(3)
		}
		switch kind {
		case 0:
			a[i] = math.MaxUint32
		case 1:
			a[i] = r.Uint32()
		}
	}
	return a
}

// product fails, if Mul of a and b is not short, or not the product, or writes into one of them.
func product(t *testing.T, a, b []uint32) {
	t.Helper()
	keepA, keepB := slices.Clone(a), slices.Clone(b)
	got := kara.Mul(a, b)
	if !slices.Equal(a, keepA) || !slices.Equal(b, keepB) {
		t.Fatalf("an argument of %d and %d digits was written into", len(a), len(b))
	}
	if toBig(got).Cmp(new(big.Int).Mul(toBig(a), toBig(b))) != 0 {
		t.Errorf("Mul of %d and %d digits: %v %v", len(a), len(b), a, b)
	}
	if len(got) > 0 && got[len(got)-1] == 0 {
		t.Errorf("Mul of %d and %d digits is not short", len(a), len(b))
	}
}

// P2.1
func TestMul(t *testing.T) {
	r := rand.New(rand.NewPCG(5, 6))
	for n := range 40 {
		for m := range 40 {
			product(t, digits(r, n), digits(r, m))
		}
	}
	for _, n := range []int{63, 64, 65, 100, 127, 128, 129, 1000, 3000} {
		for _, m := range []int{0, 1, 7, 8, 9, 50, 130, 1001, n} {
			product(t, digits(r, n), digits(r, m))
		}
	}
	ones := slices.Repeat([]uint32{math.MaxUint32}, 333)
	product(t, ones, ones)
	product(t, append(slices.Clone(ones), make([]uint32, 100)...), ones)
	product(t, make([]uint32, 100), ones)
}

// P2.1
func TestSquare(t *testing.T) {
	r := rand.New(rand.NewPCG(7, 8))
	for n := range 100 {
		a := digits(r, n)
		keep := slices.Clone(a)
		got := kara.Square(a)
		if !slices.Equal(got, nat.Mul(a, a)) || !slices.Equal(a, keep) {
			t.Errorf("Square of %d digits: %v", n, a)
		}
	}
}

// P2.2
func TestSteps(t *testing.T) {
	for _, c := range []struct{ n, want int }{
		{math.MinInt, 0}, {-1, 0}, {0, 0}, {1, 1}, {2, 4}, {7, 49}, {8, 57},
		{9, 2*25 + 36}, {16, 2*57 + 86}, {17, 2*86 + 2*25 + 36},
	} {
		if got := kara.Steps(c.n); got != c.want {
			t.Errorf("Steps(%d): %d, want %d", c.n, got, c.want)
		}
	}
	known := map[int]int{}
	var steps func(n int) int
	steps = func(n int) int {
		if n < 8 {
			return n * n
		}
		if _, ok := known[n]; !ok {
			h := n/2 + n%2
			known[n] = 2*steps(h) + steps(h+1)
		}
		return known[n]
	}
	for _, n := range []int{10, 11, 12, 13, 14, 15, 31, 33, 100, 999, 12345, 999999, 1000000} {
		if got := kara.Steps(n); got != steps(n) {
			t.Errorf("Steps(%d): %d, want %d", n, got, steps(n))
		}
	}
	for _, n := range []int{1000001, 1 << 40, math.MaxInt} {
		if got := kara.Steps(n); got != steps(1000000) {
			t.Errorf("Steps(%d): %d", n, got)
		}
	}
}

// P2.3
func TestLaws(t *testing.T) {
	r := rand.New(rand.NewPCG(9, 10))
	for range 300 {
		a, b, c := digits(r, r.IntN(60)), digits(r, r.IntN(60)), digits(r, r.IntN(60))
		if !slices.Equal(kara.Mul(a, b), kara.Mul(b, a)) {
			t.Errorf("order: %v %v", a, b)
		}
		if !slices.Equal(kara.Mul(kara.Mul(a, b), c), kara.Mul(a, kara.Mul(b, c))) {
			t.Errorf("brackets: %v %v %v", a, b, c)
		}
		if !slices.Equal(kara.Mul(nat.Add(a, b), c), nat.Add(kara.Mul(a, c), kara.Mul(b, c))) {
			t.Errorf("a sum's product: %v %v %v", a, b, c)
		}
		if !slices.Equal(kara.Mul(a, []uint32{1}), nat.Trim(a)) {
			t.Errorf("by 1: %v", a)
		}
	}
}

// P3: what is answered shares no memory with what was handed in.
func TestNewMemory(t *testing.T) {
	r := rand.New(rand.NewPCG(11, 12))
	for _, n := range []int{1, 7, 8, 30} {
		a, one := digits(r, n), []uint32{1}
		a[0] = 5
		keep := slices.Clone(a)
		for _, got := range [][]uint32{kara.Mul(a, one), kara.Mul(one, a), kara.Square(a)} {
			got = got[:cap(got)]
			for i := range got {
				got[i] = 77
			}
		}
		if !slices.Equal(a, keep) || one[0] != 1 {
			t.Errorf("%d digits are shared", n)
		}
	}
}

// P2.1, of numbers of many digits.
func TestManyDigits(t *testing.T) {
	r := rand.New(rand.NewPCG(13, 14))
	product(t, digits(r, 12000), digits(r, 9000))
}
