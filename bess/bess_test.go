package bess_test

import (
	"math"
	"math/big"
	"math/rand/v2"
	"slices"
	"testing"

	"astrolabe/api"
	"astrolabe/bess"
	"astrolabe/dyad"
	"astrolabe/iv"
	"astrolabe/zint"
)

// fine is the precision of the floats that answers are held against.
const fine = 1000

func calc(t *testing.T, p int) *iv.Calc {
	t.Helper()
	c, e := iv.New(p)
	if e != api.OK {
		t.Fatal("New", p, e)
	}
	return c
}

// num is m times 2^e, not looked at.
func num(m, e int) api.Dy { return api.Dy{M: zint.From(m), E: e} }

// long is a number with that many bits.
func long(bits, e int) api.Dy {
	one, _ := zint.Shift(zint.From(1), bits-1)
	return api.Dy{M: zint.Add(one, zint.From(1)), E: e}
}

func same(x, y api.Dy) bool {
	return x.E == y.E && x.M.Neg == y.M.Neg && slices.Equal(x.M.Mag, y.M.Mag)
}

func equal(a, b api.Iv) bool { return same(a.Lo, b.Lo) && same(a.Hi, b.Hi) }

func float() *big.Float { return new(big.Float).SetPrec(fine) }

func toFloat(x api.Dy) *big.Float {
	n := new(big.Int)
	for i := len(x.M.Mag) - 1; i >= 0; i-- {
		n.Lsh(n, 32)
		n.Or(n, big.NewInt(int64(x.M.Mag[i])))
	}
	if x.M.Neg {
		n.Neg(n)
	}
	return new(big.Float).SetMantExp(float().SetInt(n), x.E)
}

// bessel is J of order n, off by far less than 2^-800.
func bessel(n int, x *big.Float) *big.Float {
	h := new(big.Float).SetMantExp(x, -1)
	q := float().Mul(h, h)
	term := float().SetInt64(1)
	for i := 1; i <= n; i++ {
		term.Quo(term.Mul(term, h), float().SetInt64(int64(i)))
	}
	s := float()
	for k := int64(1); k < 400; k++ {
		s.Add(s, term)
		term.Quo(term.Mul(term, q), float().SetInt64(-k*(int64(n)+k)))
	}
	return s
}

// has is whether v, give or take a little, lies in a.
func has(a api.Iv, v *big.Float) bool {
	off := new(big.Float).SetMantExp(float().SetInt64(1), -700)
	return toFloat(a.Lo).Cmp(float().Add(v, off)) <= 0 && toFloat(a.Hi).Cmp(float().Sub(v, off)) >= 0
}

// places are numbers from -32 to 32.
func places(r *rand.Rand) []api.Dy {
	l := []api.Dy{{}, num(1, 0), num(-1, 0), num(1, 5), num(-1, 5), num(7, -1), num(1, -30), num(-1, -60), long(200, -199), dyad.Neg(long(200, -195))}
	for range 12 {
		x, _ := dyad.Make(zint.From(int(r.Int64()>>r.IntN(60))), r.IntN(12)-69)
		if r.IntN(2) == 0 {
			x = dyad.Neg(x)
		}
		l = append(l, x)
	}
	return l
}

// P13.1
func TestTerms(t *testing.T) {
	for _, c := range []struct {
		x       api.Dy
		p, want int
	}{{api.Dy{}, 2, 63}, {num(1, 0), 20, 74}, {num(-1, 0), 21, 74}, {num(-3, -1), 20, 74}, {num(1, 5), 200, 226}, {num(-1, 5), 200, 226}, {num(63, -1), 3, 125}} {
		if got, e := bess.Terms(c.x, c.p); got != c.want || e != api.OK {
			t.Error("Terms", c.x, c.p, got, e)
		}
	}
}

// P13.2: bit by bit what the chapter's words say.
func TestWords(t *testing.T) {
	r := rand.New(rand.NewPCG(121, 122))
	for _, x := range places(r) {
		for _, n := range []int{0, 1, 2, r.IntN(65), 64} {
			p := 2 + r.IntN(199)
			c := calc(t, p+96)
			h := c.Scale(c.Point(x), -1)
			q, term := c.Mul(h, h), c.Int(1)
			for i := 1; i <= n; i++ {
				term = c.Div(c.Mul(term, h), c.Int(i))
			}
			s := term
			terms, _ := bess.Terms(x, p)
			for i := 1; i <= terms; i++ {
				term = c.Neg(c.Div(c.Mul(term, q), c.Int(i*(n+i))))
				s = c.Add(s, term)
			}
			low, high := term.Lo, term.Hi
			low.M.Neg, high.M.Neg = false, false
			if dyad.Cmp(low, high) > 0 {
				high = low
			}
			s = c.Wide(s, high)
			want := api.Iv{}
			if c.Err() == api.OK {
				want = calc(t, p).Out(s)
			}
			if got, e := bess.J(n, x, p); !equal(got, want) || e != c.Err() {
				t.Error("J", n, x, p, got, want, e, c.Err())
			}
		}
	}
}

// What may not be asked; what is asked at 0.
func TestErrors(t *testing.T) {
	above, _ := dyad.Add(num(1, 5), num(1, -100))
	terms := func(n int, x api.Dy, p int) (api.Iv, api.Errno) {
		count, e := bess.Terms(x, p)
		return api.Iv{Lo: dyad.From(count)}, e
	}
	for name, f := range map[string]func(n int, x api.Dy, p int) (api.Iv, api.Errno){"J": bess.J, "Terms": terms} {
		for _, c := range []struct {
			x    api.Dy
			p    int
			want api.Errno
		}{
			{num(1, 0), 1, api.ErrArg}, {num(1, 0), 201, api.ErrArg}, {num(1, 0), math.MinInt, api.ErrArg}, {num(1, 0), math.MaxInt, api.ErrArg}, {num(33, 0), 1, api.ErrArg},
			{num(2, 0), 9, api.ErrArg}, {num(0, 1), 9, api.ErrArg}, {long(201, -200), 9, api.ErrArg}, {long(201, 0), 9, api.ErrArg}, {num(1, 131073), 9, api.ErrArg},
			{num(33, 0), 9, api.ErrRange}, {num(-33, 0), 9, api.ErrRange}, {above, 9, api.ErrRange}, {dyad.Neg(above), 9, api.ErrRange}, {num(1, 131072), 9, api.ErrRange}, {num(1, -131072), 9, api.ErrRange},
		} {
			if got, e := f(3, c.x, c.p); e != c.want || !equal(got, api.Iv{}) {
				t.Error(name, c.x, c.p, got, e, "want", c.want)
			}
		}
	}
	for _, n := range []int{-1, 65, math.MinInt, math.MaxInt} {
		for _, x := range []api.Dy{{}, num(1, 0), num(33, 0)} {
			if got, e := bess.J(n, x, 20); e != api.ErrArg || !equal(got, api.Iv{}) {
				t.Error("J", n, x, got, e)
			}
		}
	}
	for _, n := range []int{0, 1, 64} {
		want := api.Iv{}
		if n == 0 {
			want = api.Iv{Lo: num(1, 0), Hi: num(1, 0)}
		}
		if got, e := bess.J(n, api.Dy{}, 20); e != api.OK || !equal(got, want) {
			t.Error("J of 0", n, got, e)
		}
	}
	if got, e := bess.J(0, num(1, -1000), 20); e != api.ErrRange || !equal(got, api.Iv{}) {
		t.Error("J of little: its terms leave the range", got, e)
	}
}

// P13.3
func TestValues(t *testing.T) {
	r := rand.New(rand.NewPCG(123, 124))
	c := calc(t, 400)
	for _, x := range places(r) {
		for _, p := range []int{2, 30, 64, 200} {
			var last []api.Iv
			for _, n := range []int{0, 1, 2, 7, 8, 9, 62, 63, 64} {
				got, e := bess.J(n, x, p)
				if e != api.OK || !has(got, bessel(n, toFloat(x))) {
					t.Error("J", n, x, p, got, e)
				}
				if wide := c.Sub(c.Point(got.Hi), c.Point(got.Lo)); dyad.Cmp(wide.Hi, num(1, 2-p)) > 0 {
					t.Error("J is wide", n, x, p, got)
				}
				c.Meet(got, api.Iv{Lo: num(-1, 0), Hi: num(1, 0)})
				last = append(last, got)
			}
			for i, n := range []int{1, 8, 63} {
				if len(x.M.Mag) > 0 {
					c.Meet(c.Add(last[3*i], last[3*i+2]), c.Mul(c.Div(c.Int(2*n), c.Point(x)), last[3*i+1]))
				}
			}
			if c.Err() != api.OK {
				t.Fatal("nothing in common", x, p, c.Err())
			}
		}
	}
}
