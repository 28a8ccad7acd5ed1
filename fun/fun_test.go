package fun_test

import (
	"math"
	"math/big"
	"slices"
	"testing"

	"astrolabe/api"
	"astrolabe/bess"
	"astrolabe/dyad"
	"astrolabe/erff"
	"astrolabe/expo"
	"astrolabe/fun"
	"astrolabe/gamm"
	"astrolabe/trig"
	"astrolabe/zint"
)

// num is m times 2^e, not looked at.
func num(m, e int) api.Dy { return api.Dy{M: zint.From(m), E: e} }

// long is a number with that many bits.
func long(bits, e int) api.Dy {
	one, _ := zint.Shift(zint.From(1), bits-1)
	return api.Dy{M: zint.Add(one, zint.From(1)), E: e}
}

func same(x, y api.Dy) bool {
	return x.E == y.E && x.M.Neg == y.M.Neg && slices.Equal(x.M.Mag, y.M.Mag)
}

func equal(a, b api.Iv) bool { return same(a.Lo, b.Lo) && same(a.Hi, b.Hi) }

// plain are the functions without orders.
var plain = map[int]func(x api.Dy, p int) (api.Iv, api.Errno){
	api.Exp: expo.Exp, api.Ln: expo.Ln, api.Sin: trig.Sin, api.Cos: trig.Cos, api.Atan: trig.Atan, api.Erf: erff.Erf, api.Erfc: erff.Erfc, api.Gamma: gamm.Gamma, api.Lgamma: gamm.Lgamma,
}

// P14.1
func TestName(t *testing.T) {
	for i, want := range []string{"exp", "ln", "sin", "cos", "atan", "erf", "erfc", "gamma", "lgamma", "bessel"} {
		if got, ok := fun.Name(i + 1); got != want || !ok {
			t.Error("Name", i+1, got, ok)
		}
	}
	for _, f := range []int{0, 11, -1, math.MaxInt, math.MinInt} {
		if got, ok := fun.Name(f); got != "" || ok {
			t.Error("Name", f, got, ok)
		}
	}
}

// fits fails, if Fits has another error, or Eval does not have it too.
func fits(t *testing.T, f, n int, x api.Dy, p int, want api.Errno) {
	t.Helper()
	if e := fun.Fits(f, n, x, p); e != want {
		t.Error("Fits", f, n, x, p, e, "want", want)
	}
	got, e := fun.Eval(f, n, x, p)
	if e != want || e != api.OK && !equal(got, api.Iv{}) {
		t.Error("Eval", f, n, x, p, got, e, "want", want)
	}
}

// P14.1: arguments that are none.
func TestFitsArguments(t *testing.T) {
	for _, f := range []int{0, 11, -1, math.MaxInt, math.MinInt} {
		fits(t, f, 0, num(1, 0), 30, api.ErrArg)
	}
	for f := 1; f <= 10; f++ {
		for _, n := range []int{-1, 65, math.MaxInt, math.MinInt} {
			fits(t, f, n, num(1, 0), 30, api.ErrArg)
		}
		for _, n := range []int{1, 64} {
			want := api.ErrArg
			if f == api.Bessel {
				want = api.OK
			}
			fits(t, f, n, num(1, 0), 30, want)
		}
		for _, p := range []int{1, 65, math.MaxInt, math.MinInt} {
			fits(t, f, 0, num(1, 0), p, api.ErrArg)
		}
		for _, p := range []int{2, 64} {
			fits(t, f, 0, num(1, 0), p, api.OK)
			fits(t, f, 0, long(200, -199), p, api.OK)
		}
		for _, x := range []api.Dy{num(2, 0), num(-2, 0), num(0, 1), long(201, -200), dyad.Neg(long(201, 300)), num(1, 131073)} {
			fits(t, f, 0, x, 30, api.ErrArg)
		}
	}
}

// P14.1: where each may be asked.
func TestFitsPlaces(t *testing.T) {
	near := func(n, e int) (below, above api.Dy) {
		below, _ = dyad.Sub(num(n, e), num(1, -100))
		above, _ = dyad.Add(num(n, e), num(1, -100))
		return below, above
	}
	below11, above11 := near(1, 11)
	for _, f := range []int{api.Exp, api.Sin, api.Cos} {
		fits(t, f, 0, below11, 30, api.OK)
		fits(t, f, 0, dyad.Neg(below11), 30, api.OK)
		fits(t, f, 0, num(1, 11), 30, api.ErrRange)
		fits(t, f, 0, num(-1, 11), 30, api.ErrRange)
		fits(t, f, 0, above11, 30, api.ErrRange)
		fits(t, f, 0, api.Dy{}, 30, api.OK)
	}
	for _, f := range []int{api.Erf, api.Erfc} {
		_, above := near(3, 1)
		fits(t, f, 0, num(3, 1), 30, api.OK)
		fits(t, f, 0, num(-3, 1), 30, api.OK)
		fits(t, f, 0, above, 30, api.ErrRange)
		fits(t, f, 0, dyad.Neg(above), 30, api.ErrRange)
	}
	for _, f := range []int{api.Gamma, api.Lgamma} {
		below, _ := dyad.Sub(num(1, -64), num(1, -200))
		_, above := near(1, 6)
		fits(t, f, 0, num(1, -64), 30, api.OK)
		fits(t, f, 0, num(1, 6), 30, api.OK)
		fits(t, f, 0, below, 30, api.ErrRange)
		fits(t, f, 0, above, 30, api.ErrRange)
		fits(t, f, 0, num(1, 131072), 30, api.ErrRange)
		fits(t, f, 0, num(-1, 131072), 30, api.ErrDomain)
	}
	for _, f := range []int{api.Ln, api.Gamma, api.Lgamma} {
		fits(t, f, 0, api.Dy{}, 30, api.ErrDomain)
		fits(t, f, 0, num(-1, -100), 30, api.ErrDomain)
	}
	_, above := near(1, 5)
	for _, n := range []int{0, 64} {
		fits(t, api.Bessel, n, num(1, 5), 30, api.OK)
		fits(t, api.Bessel, n, num(-1, 5), 30, api.OK)
		fits(t, api.Bessel, n, above, 30, api.ErrRange)
		fits(t, api.Bessel, n, dyad.Neg(above), 30, api.ErrRange)
	}
	fits(t, api.Ln, 0, num(1, 50000), 30, api.OK)
	fits(t, api.Atan, 0, num(-1, 300), 30, api.OK)
	if e := fun.Fits(api.Atan, 0, num(-1, 131072), 30); e != api.OK {
		t.Error("Fits far out", e)
	}
	if got, e := fun.Eval(api.Atan, 0, num(-1, 131072), 30); e != api.ErrRange || !equal(got, api.Iv{}) {
		t.Error("the chapter's own error", got, e)
	}
}

// P14.1: Eval says what the chapters say.
func TestEval(t *testing.T) {
	for f := 1; f <= 10; f++ {
		for _, x := range []api.Dy{{}, num(1, 0), num(-1, 0), num(7, -2), num(-7, -2), num(1, -20), long(200, -198)} {
			for _, p := range []int{2, 20, 64} {
				want, wantE := bess.J(0, x, p)
				if f != api.Bessel {
					want, wantE = plain[f](x, p)
				}
				if got, e := fun.Eval(f, 0, x, p); !equal(got, want) || e != wantE {
					t.Error("Eval", f, x, p, got, want, e)
				}
				want, wantE = bess.J(5, x, p)
				if got, e := fun.Eval(api.Bessel, 5, x, p); !equal(got, want) || e != wantE {
					t.Error("Eval of order 5", x, p, got, want, e)
				}
			}
		}
	}
}

// dy is a whole number that may be a great one.
func dy(n *big.Int) api.Dy {
	var mag []uint32
	for rest := new(big.Int).Set(n); rest.Sign() > 0; rest.Rsh(rest, 32) {
		mag = append(mag, uint32(new(big.Int).And(rest, big.NewInt(math.MaxUint32)).Uint64()))
	}
	x, _ := dyad.Make(zint.Make(false, mag), 0)
	return x
}

func factorial(n int) *big.Int { return new(big.Int).MulRange(1, int64(n)) }

// slope fails, if Slope is not want.
func slope(t *testing.T, f, n int, a, b api.Dy, k int, want api.Dy) {
	t.Helper()
	if got, e := fun.Slope(f, n, a, b, k); e != api.OK || !same(got, want) {
		t.Error("Slope", f, n, a, b, k, got, e, "want", want)
	}
}

// P14.2
func TestSlope(t *testing.T) {
	a, b := num(3, -2), num(5, -1)
	for k := 1; k <= 40; k++ {
		slope(t, api.Sin, 0, dyad.Neg(a), b, k, num(1, 0))
		slope(t, api.Cos, 0, a, a, k, num(1, 0))
		slope(t, api.Bessel, 7, a, b, k, num(1, 0))
		exp, _ := expo.Exp(b, 64)
		slope(t, api.Exp, 0, a, b, k, exp.Hi)
		slope(t, api.Atan, 0, dyad.Neg(b), b, k, dy(factorial(k-1)))
		erf := dy(new(big.Int).Lsh(factorial(k-1), uint(k+1)))
		slope(t, api.Erf, 0, dyad.Neg(b), a, k, erf)
		slope(t, api.Erfc, 0, a, b, k, erf)
		power := num(1, 0)
		for range k {
			power, _ = dyad.Mul(power, a)
		}
		ln, _ := dyad.Div(dy(factorial(k-1)), power, 64, true)
		slope(t, api.Ln, 0, a, b, k, ln)
	}
	slope(t, api.Ln, 0, num(1, 0), num(1, 1), 40, func() api.Dy { x, _ := dyad.Round(dy(factorial(39)), 64, true); return x }())
}

// P14.2: what may not be asked, and which error is told first.
func TestSlopeErrors(t *testing.T) {
	a, b := num(3, -2), num(5, -1)
	for _, c := range []struct {
		f, n int
		a, b api.Dy
		k    int
		want api.Errno
	}{
		{0, 0, a, b, 1, api.ErrArg}, {11, 0, a, b, 1, api.ErrArg}, {math.MinInt, 0, a, b, 1, api.ErrArg}, {api.Sin, 1, a, b, 1, api.ErrArg}, {api.Bessel, 65, a, b, 1, api.ErrArg}, {api.Bessel, -1, a, b, 1, api.ErrArg},
		{api.Sin, 0, a, b, 0, api.ErrArg}, {api.Sin, 0, a, b, 41, api.ErrArg}, {api.Sin, 0, a, b, math.MinInt, api.ErrArg}, {api.Sin, 0, a, b, math.MaxInt, api.ErrArg},
		{api.Sin, 0, b, a, 1, api.ErrArg}, {api.Sin, 0, num(2, 0), num(9, 0), 1, api.ErrArg}, {api.Sin, 0, a, num(6, 0), 1, api.ErrArg}, {api.Sin, 0, num(0, 4), b, 1, api.ErrArg},
		{api.Sin, 0, long(201, -250), b, 1, api.ErrArg}, {api.Sin, 0, a, long(201, -190), 1, api.ErrArg}, {api.Gamma, 0, b, a, 1, api.ErrArg}, {api.Ln, 0, a, dyad.Neg(a), 1, api.ErrArg},
		{api.Gamma, 0, a, b, 1, api.ErrDomain}, {api.Lgamma, 0, num(1, 7), num(1, 8), 40, api.ErrDomain},
		{api.Ln, 0, api.Dy{}, b, 1, api.ErrDomain}, {api.Ln, 0, num(-1, 0), b, 1, api.ErrDomain},
		{api.Sin, 0, num(-1, 11), b, 1, api.ErrRange}, {api.Cos, 0, a, num(1, 11), 1, api.ErrRange}, {api.Exp, 0, a, num(1, 11), 1, api.ErrRange}, {api.Exp, 0, num(-1, 11), a, 1, api.ErrRange},
		{api.Erf, 0, a, num(7, 0), 1, api.ErrRange}, {api.Erfc, 0, num(-7, 0), a, 1, api.ErrRange}, {api.Bessel, 3, a, num(33, 0), 1, api.ErrRange}, {api.Bessel, 3, num(-33, 0), a, 1, api.ErrRange},
		{api.Ln, 0, num(1, 2000), num(1, 2001), 40, api.ErrRange}, {api.Ln, 0, num(1, -2000), b, 40, api.ErrRange}, {api.Exp, 0, a, num(1, -5000), 1, api.ErrArg}, {api.Exp, 0, num(-1, 0), num(1, -5000), 1, api.ErrRange},
	} {
		if got, e := fun.Slope(c.f, c.n, c.a, c.b, c.k); e != c.want || !same(got, api.Dy{}) {
			t.Error("Slope", c.f, c.n, c.a, c.b, c.k, got, e, "want", c.want)
		}
	}
	for _, f := range []int{api.Exp, api.Sin, api.Atan, api.Erf, api.Bessel} {
		if _, e := fun.Slope(f, 0, long(200, -199), long(200, -199), 40); e != api.OK {
			t.Error("Slope of 200 bits", f, e)
		}
	}
}

// P14.3
func TestSlopesRise(t *testing.T) {
	places := []api.Dy{num(1, -3), num(3, -2), num(1, 0), num(5, -1), num(5, 0)}
	for _, f := range []int{api.Exp, api.Ln, api.Sin, api.Cos, api.Atan, api.Erf, api.Erfc, api.Bessel} {
		for _, k := range []int{1, 2, 17, 40} {
			for i := range places {
				for j := i; j < len(places); j++ {
					wide, e := fun.Slope(f, 0, places[i], places[j], k)
					if e != api.OK || dyad.Cmp(wide, api.Dy{}) < 0 {
						t.Error("Slope", f, k, wide, e)
					}
					for l := i; l <= j; l++ {
						if part, _ := fun.Slope(f, 0, places[l], places[j], k); dyad.Cmp(part, wide) > 0 {
							t.Error("a part's slope", f, k, part, wide)
						}
						if part, _ := fun.Slope(f, 0, places[i], places[l], k); dyad.Cmp(part, wide) > 0 {
							t.Error("a part's slope", f, k, part, wide)
						}
					}
				}
			}
		}
	}
}
