package quo_test

import (
	"math"
	"math/big"
	"math/rand/v2"
	"slices"
	"testing"

	"astrolabe/nat"
	"astrolabe/quo"
)

func toBig(a []uint32) *big.Int {
	n := new(big.Int)
	for i := len(a) - 1; i >= 0; i-- {
		n.Lsh(n, 32)
		n.Or(n, big.NewInt(int64(a[i])))
	}
	return n
}

// digits makes a list of n digits, many of them at the edges where a guess goes wrong; some end in zeros.
func digits(r *rand.Rand, n int) []uint32 {
	a := make([]uint32, n)
	for i := range a {
		switch r.IntN(6) {
		case 0:
			a[i] = math.MaxUint32
		case 1:
			a[i] = 0
		case 2:
			a[i] = 1 << 31
		case 3:
			a[i] = 1<<31 - 1
		default:
			a[i] = r.Uint32() >> r.IntN(32)
		}
	}
	return a
}

// same fails, if got is not short, or not the number want.
func same(t *testing.T, what string, got []uint32, want *big.Int) {
	t.Helper()
	if len(got) > 0 && got[len(got)-1] == 0 {
		t.Errorf("%s is not short: %v", what, got)
	}
	if toBig(got).Cmp(want) != 0 {
		t.Errorf("%s: %v, want %v", what, toBig(got), want)
	}
}

// divide fails, if DivMod of a and b is not what it should be, or writes into one of them.
func divide(t *testing.T, a, b []uint32) {
	t.Helper()
	keepA, keepB := slices.Clone(a), slices.Clone(b)
	q, r, ok := quo.DivMod(a, b)
	if !slices.Equal(a, keepA) || !slices.Equal(b, keepB) {
		t.Fatalf("an argument was written into: %v %v", keepA, keepB)
	}
	x, y := toBig(a), toBig(b)
	if y.Sign() == 0 {
		if ok || len(q) != 0 || len(r) != 0 {
			t.Errorf("DivMod(%v, 0): %v %v %v", x, q, r, ok)
		}
		return
	}
	wantQ, wantR := new(big.Int).QuoRem(x, y, new(big.Int))
	if !ok {
		t.Errorf("DivMod(%v, %v): false", x, y)
	}
	same(t, "the quotient", q, wantQ)
	same(t, "the rest", r, wantR)
}

// P3.1
func TestDivMod(t *testing.T) {
	q, r, ok := quo.DivMod([]uint32{0, 0, 1}, []uint32{10})
	if n, small := nat.Small(q); n != 1844674407370955161 || !small || !slices.Equal(r, []uint32{6}) || !ok {
		t.Error("2^64 by 10", q, r, ok)
	}
	random := rand.New(rand.NewPCG(21, 22))
	for range 20000 {
		divide(t, digits(random, random.IntN(12)), digits(random, random.IntN(7)))
	}
	for range 20 {
		divide(t, digits(random, 300), digits(random, 100+random.IntN(250)))
	}
	for _, b := range [][]uint32{nil, {0}, {0, 0, 0}} {
		divide(t, nil, b)
		divide(t, []uint32{1, 2, 3}, b)
	}
	divide(t, []uint32{5}, []uint32{5})
	divide(t, []uint32{4, 0, 0}, []uint32{5, 0})
}

// P3.1, of guesses that are off by one and by two, and of the sum that then goes back.
func TestDivModGuesses(t *testing.T) {
	const top = 1 << 31
	for _, c := range []struct{ a, b []uint32 }{
		{[]uint32{0, 0, top, top - 1}, []uint32{1, 0, top}},
		{[]uint32{3, 0, top}, []uint32{1, 0, top >> 2}},
		{[]uint32{0, math.MaxUint32 - 1, top}, []uint32{math.MaxUint32, top}},
		{[]uint32{0, 0, 0, top - 1, top}, []uint32{math.MaxUint32, 0, 0, top}},
		{[]uint32{math.MaxUint32, math.MaxUint32, math.MaxUint32, math.MaxUint32}, []uint32{math.MaxUint32, math.MaxUint32}},
		{[]uint32{0, 0, math.MaxUint32, math.MaxUint32 - 1}, []uint32{math.MaxUint32, math.MaxUint32}},
	} {
		divide(t, c.a, c.b)
	}
}

// P3.2
func TestSqrt(t *testing.T) {
	check := func(a []uint32) {
		t.Helper()
		keep := slices.Clone(a)
		s, rest := quo.Sqrt(a)
		if !slices.Equal(a, keep) {
			t.Fatalf("the argument was written into: %v", keep)
		}
		want := new(big.Int).Sqrt(toBig(a))
		same(t, "the root", s, want)
		same(t, "the rest", rest, want.Sub(toBig(a), new(big.Int).Mul(want, want)))
	}
	if s, rest := quo.Sqrt([]uint32{99}); !slices.Equal(s, []uint32{9}) || !slices.Equal(rest, []uint32{18}) {
		t.Error("Sqrt(99)", s, rest)
	}
	for n := range uint64(2000) {
		check(nat.From(n))
	}
	random := rand.New(rand.NewPCG(23, 24))
	for range 5000 {
		a := digits(random, random.IntN(20))
		check(a)
		square := nat.Mul(a, a)
		check(square)
		check(nat.Add(square, []uint32{1}))
		if below, ok := nat.Sub(square, []uint32{1}); ok {
			check(below)
		}
		check(nat.Add(square, nat.Add(a, a)))
	}
	check(nil)
	check([]uint32{0, 0})
	check(digits(random, 500))
	check(slices.Repeat([]uint32{math.MaxUint32}, 201))
	check(append(make([]uint32, 13000), 1))
}

// P3.2
func TestGcd(t *testing.T) {
	random := rand.New(rand.NewPCG(25, 26))
	for range 3000 {
		c := digits(random, random.IntN(4))
		a, b := nat.Mul(digits(random, random.IntN(6)), c), append(nat.Mul(digits(random, random.IntN(6)), c), 0)
		keepA, keepB := slices.Clone(a), slices.Clone(b)
		got := quo.Gcd(a, b)
		if !slices.Equal(a, keepA) || !slices.Equal(b, keepB) {
			t.Fatalf("an argument was written into: %v %v", keepA, keepB)
		}
		same(t, "Gcd", got, new(big.Int).GCD(nil, nil, toBig(a), toBig(b)))
	}
	for _, c := range []struct{ a, b, want []uint32 }{
		{nil, nil, nil},
		{[]uint32{0}, []uint32{0, 0}, nil},
		{nil, []uint32{0, 7, 0}, []uint32{0, 7}},
		{[]uint32{0, 7, 0}, nil, []uint32{0, 7}},
		{[]uint32{12}, []uint32{18}, []uint32{6}},
		{[]uint32{1}, []uint32{0, 0, 5}, []uint32{1}},
	} {
		if got := quo.Gcd(c.a, c.b); !slices.Equal(got, c.want) {
			t.Error("Gcd", c.a, c.b, got)
		}
	}
}

// P3.3
func TestLaws(t *testing.T) {
	random := rand.New(rand.NewPCG(27, 28))
	for range 3000 {
		a, b := digits(random, random.IntN(12)), append(digits(random, random.IntN(6)), 1+random.Uint32()>>1)
		q, r, ok := quo.DivMod(a, b)
		if !ok || !slices.Equal(nat.Add(nat.Mul(q, b), r), nat.Trim(a)) || nat.Cmp(r, b) >= 0 {
			t.Errorf("DivMod %v %v: %v %v %v", a, b, q, r, ok)
		}
		s, rest := quo.Sqrt(a)
		if !slices.Equal(nat.Add(nat.Mul(s, s), rest), nat.Trim(a)) || nat.Cmp(rest, nat.Add(s, s)) > 0 {
			t.Errorf("Sqrt %v: %v %v", a, s, rest)
		}
		c := []uint32{1 + random.Uint32()>>1}
		g := quo.Gcd(nat.Mul(a, c), nat.Mul(b, c))
		if _, left, ok := quo.DivMod(g, c); !ok || len(left) != 0 {
			t.Errorf("%v divides both, but not %v", c, g)
		}
	}
}

// P3: what is answered shares no memory with what was handed in, nor one answer with the other.
func TestNewMemory(t *testing.T) {
	a, b, small := []uint32{1, 2, 3, 4, 0}, []uint32{9, 8, 7, 6, 5, 0}, []uint32{3, 0}
	fill := func(lists ...[]uint32) {
		for i, l := range lists {
			l = l[:cap(l)]
			for j := range l {
				l[j] = uint32(i) + 1000
			}
		}
		for i, l := range lists {
			for _, d := range l {
				if d != uint32(i)+1000 {
					t.Fatal("two answers share", lists)
				}
			}
		}
	}
	for _, c := range [][2][]uint32{{a, b}, {b, a}, {a, small}, {a, a}} {
		q, r, _ := quo.DivMod(c[0], c[1])
		fill(q, r)
	}
	s, rest := quo.Sqrt(a)
	fill(s, rest)
	fill(quo.Gcd(a, nil), quo.Gcd(nil, a), quo.Gcd(a, a), quo.Gcd(a, b))
	if !slices.Equal(a, []uint32{1, 2, 3, 4, 0}) || !slices.Equal(b, []uint32{9, 8, 7, 6, 5, 0}) || !slices.Equal(small, []uint32{3, 0}) {
		t.Error("an answer shares", a, b, small)
	}
}
