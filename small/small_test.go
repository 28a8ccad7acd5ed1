package small_test

import (
	"math"
	"math/big"
	"math/rand/v2"
	"slices"
	"testing"

	"astrolabe/api"
	"astrolabe/dyad"
	"astrolabe/iv"
	"astrolabe/small"
	"astrolabe/zint"
)

// fine is how many bits behind the point the numbers have that answers are held against; they are off by less than 2^-(fine - 20).
const fine = 900

func calc(t *testing.T, p int) *iv.Calc {
	t.Helper()
	c, e := iv.New(p)
	if e != api.OK {
		t.Fatal("New", p, e)
	}
	return c
}

// num is m times 2^e, not looked at.
func num(m, e int) api.Dy { return api.Dy{M: zint.From(m), E: e} }

func same(x, y api.Dy) bool {
	return x.E == y.E && x.M.Neg == y.M.Neg && slices.Equal(x.M.Mag, y.M.Mag)
}

func equal(a, b api.Iv) bool { return same(a.Lo, b.Lo) && same(a.Hi, b.Hi) }

// fixed is x times 2^fine, rounded down.
func fixed(x api.Dy) *big.Int {
	n := new(big.Int)
	for i := len(x.M.Mag) - 1; i >= 0; i-- {
		n.Lsh(n, 32)
		n.Or(n, big.NewInt(int64(x.M.Mag[i])))
	}
	if x.M.Neg {
		n.Neg(n)
	}
	if e := x.E + fine; e < 0 {
		return n.Rsh(n, uint(-e))
	}
	return n.Lsh(n, uint(x.E+fine))
}

// times is the product of two fixed numbers.
func times(a, b *big.Int) *big.Int {
	p := new(big.Int).Mul(a, b)
	return p.Rsh(p, fine)
}

// truth is the sum of a fixed series: each term is the last one times q, times up(i), divided by down(i).
func truth(first, q *big.Int, up, down func(i int64) int64) *big.Int {
	s, t := new(big.Int).Set(first), first
	for i := int64(1); i < 2000 && t.Sign() != 0 && t.CmpAbs(big.NewInt(1)) > 0; i++ {
		t = times(t, q)
		t.Mul(t, big.NewInt(up(i)))
		t.Quo(t, big.NewInt(down(i)))
		s.Add(s, t)
	}
	return s
}

func one(int64) int64 { return 1 }

// series are the functions, with their bounds' exponents, and the true values of fixed numbers.
var series = []struct {
	name  string
	call  func(c *iv.Calc, y api.Iv) api.Iv
	bound int
	truth func(y *big.Int) *big.Int
}{
	{"Exp", small.Exp, -3, func(y *big.Int) *big.Int {
		return truth(fixed(num(1, 0)), y, one, func(i int64) int64 { return i })
	}},
	{"Sin", small.Sin, 0, func(y *big.Int) *big.Int {
		return truth(y, times(y, y), func(int64) int64 { return -1 }, func(i int64) int64 { return 2 * i * (2*i + 1) })
	}},
	{"Cos", small.Cos, 0, func(y *big.Int) *big.Int {
		return truth(fixed(num(1, 0)), times(y, y), func(int64) int64 { return -1 }, func(i int64) int64 { return 2 * i * (2*i - 1) })
	}},
	{"Atan", small.Atan, -1, func(y *big.Int) *big.Int {
		return truth(y, times(y, y), func(i int64) int64 { return 1 - 2*i }, func(i int64) int64 { return 2*i + 1 })
	}},
	{"Atanh", small.Atanh, -1, func(y *big.Int) *big.Int {
		return truth(y, times(y, y), func(i int64) int64 { return 2*i - 1 }, func(i int64) int64 { return 2*i + 1 })
	}},
}

// has fails, if the fixed number v, give or take a little, does not lie in a.
func has(t *testing.T, what string, a api.Iv, v *big.Int) {
	t.Helper()
	off := new(big.Int).Lsh(big.NewInt(1), 20)
	if fixed(a.Lo).Cmp(new(big.Int).Add(v, off)) > 0 || fixed(a.Hi).Cmp(new(big.Int).Sub(v, off)) < 0 {
		t.Errorf("%s: the value is not in %v", what, a)
	}
}

// within makes a stretch of numbers from -2^e to 2^e.
func within(r *rand.Rand, e, width int) api.Iv {
	m := r.IntN(1<<31) - 1<<30
	lo, _ := dyad.Make(zint.From(m), e-30)
	hi, _ := dyad.Make(zint.From(min(m+r.IntN(width), 1<<30)), e-30)
	return api.Iv{Lo: lo, Hi: hi}
}

// P7.1
func TestTerms(t *testing.T) {
	for _, c := range []struct{ p, want int }{
		{64, 36}, {0, 4}, {1, 4}, {2, 5}, {3, 5}, {399, 203}, {400, 204}, {401, 204}, {math.MaxInt, 204}, {-1, 4}, {math.MinInt, 4},
	} {
		if got := small.Terms(c.p); got != c.want {
			t.Error("Terms", c.p, got)
		}
	}
}

// P7.2, P7.3: bit by bit what the chapter's words say.
func TestWords(t *testing.T) {
	type words func(c *iv.Calc, y, q, t api.Iv, i int) (term, part api.Iv)
	divided := func(by func(i int) int) words {
		return func(c *iv.Calc, y, q, t api.Iv, i int) (api.Iv, api.Iv) {
			t = c.Neg(c.Div(c.Mul(t, q), c.Int(by(i))))
			return t, t
		}
	}
	all := map[string]words{
		"Exp": func(c *iv.Calc, y, q, t api.Iv, i int) (api.Iv, api.Iv) {
			t = c.Div(c.Mul(t, y), c.Int(i))
			return t, t
		},
		"Sin": divided(func(i int) int { return 2 * i * (2*i + 1) }),
		"Cos": divided(func(i int) int { return (2*i - 1) * 2 * i }),
		"Atan": func(c *iv.Calc, y, q, t api.Iv, i int) (api.Iv, api.Iv) {
			t = c.Neg(c.Mul(t, q))
			return t, c.Div(t, c.Int(2*i+1))
		},
		"Atanh": func(c *iv.Calc, y, q, t api.Iv, i int) (api.Iv, api.Iv) {
			t = c.Mul(t, q)
			return t, c.Div(t, c.Int(2*i+1))
		},
	}
	r := rand.New(rand.NewPCG(71, 72))
	for _, f := range series {
		for range 60 {
			p, y := 2+r.IntN(120), within(r, f.bound, 1000)
			c := calc(t, p)
			q := c.Mul(y, y)
			s := y
			if f.name == "Exp" || f.name == "Cos" {
				s = c.Int(1)
			}
			term := s
			for i := 1; i <= p/2+4; i++ {
				var part api.Iv
				term, part = all[f.name](c, y, q, term, i)
				s = c.Add(s, part)
			}
			want := c.Wide(s, num(1, -p))
			if got := f.call(calc(t, p), y); !equal(got, want) || c.Err() != api.OK {
				t.Error(f.name, p, y, got, want, c.Err())
			}
		}
	}
}

// P7.4: the value is in the answer, and the answer is narrow.
func TestValues(t *testing.T) {
	r := rand.New(rand.NewPCG(73, 74))
	for _, f := range series {
		for _, p := range []int{2, 3, 10, 53, 64, 100, 199, 400} {
			bound := dyad.Half(f.bound)
			for _, y := range []api.Iv{{}, {Lo: bound, Hi: bound}, {Lo: dyad.Neg(bound), Hi: dyad.Neg(bound)}, {Lo: dyad.Neg(bound), Hi: bound}, within(r, f.bound, 1), within(r, f.bound, 1), within(r, f.bound, 1<<30)} {
				c := calc(t, p)
				got := f.call(c, y)
				if c.Err() != api.OK {
					t.Fatal(f.name, p, y, c.Err())
				}
				has(t, f.name, got, f.truth(fixed(y.Lo)))
				has(t, f.name, got, f.truth(fixed(y.Hi)))
				wide := new(big.Int).Sub(fixed(got.Hi), fixed(got.Lo))
				if same(y.Lo, y.Hi) && wide.Cmp(fixed(num(1, 10-p))) > 0 {
					t.Error(f.name, p, y, "is wide", got)
				}
			}
		}
	}
}

// What an argument may not be: P7's head.
func TestErrors(t *testing.T) {
	for _, f := range series {
		bound := dyad.Half(f.bound)
		above, _ := dyad.Add(bound, num(1, -500))
		for _, c := range []struct {
			y    api.Iv
			want api.Errno
		}{
			{api.Iv{Lo: num(2, -9), Hi: num(2, -9)}, api.ErrArg},
			{api.Iv{Lo: num(1, 0), Hi: num(-1, 0)}, api.ErrArg},
			{api.Iv{Lo: bound, Hi: above}, api.ErrDomain},
			{api.Iv{Lo: dyad.Neg(above), Hi: bound}, api.ErrDomain},
			{api.Iv{Lo: num(-1, 131072), Hi: num(1, 131072)}, api.ErrDomain},
			{api.Iv{Lo: num(1, 131072), Hi: num(1, 131072)}, api.ErrDomain},
			{api.Iv{Lo: num(1, -131072), Hi: num(1, -131072)}, api.ErrRange},
		} {
			calculator := calc(t, 20)
			if got := f.call(calculator, c.y); calculator.Err() != c.want || !equal(got, api.Iv{}) {
				t.Error(f.name, c.y, got, calculator.Err())
			}
		}
		calculator := calc(t, 20)
		calculator.Meet(calculator.Int(1), calculator.Int(2))
		for _, y := range []api.Iv{{}, {Lo: num(2, 0)}, {Hi: num(1, 9)}} {
			if got := f.call(calculator, y); calculator.Err() != api.ErrNone || !equal(got, api.Iv{}) {
				t.Error(f.name, "behind an error", got, calculator.Err())
			}
		}
	}
}
