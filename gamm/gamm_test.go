package gamm_test

import (
	"math"
	"math/big"
	"math/rand/v2"
	"slices"
	"testing"

	"astrolabe/api"
	"astrolabe/dyad"
	"astrolabe/expo"
	"astrolabe/gamm"
	"astrolabe/iv"
	"astrolabe/konst"
	"astrolabe/zint"
)

// fine is the precision of the floats that answers are held against.
const fine = 1400

func calc(t *testing.T, p int) *iv.Calc {
	t.Helper()
	c, e := iv.New(p)
	if e != api.OK {
		t.Fatal("New", p, e)
	}
	return c
}

// num is m times 2^e, not looked at.
func num(m, e int) api.Dy { return api.Dy{M: zint.From(m), E: e} }

// long is a number with that many bits.
func long(bits, e int) api.Dy {
	one, _ := zint.Shift(zint.From(1), bits-1)
	return api.Dy{M: zint.Add(one, zint.From(1)), E: e}
}

func same(x, y api.Dy) bool {
	return x.E == y.E && x.M.Neg == y.M.Neg && slices.Equal(x.M.Mag, y.M.Mag)
}

func equal(a, b api.Iv) bool { return same(a.Lo, b.Lo) && same(a.Hi, b.Hi) }

func float() *big.Float { return new(big.Float).SetPrec(fine) }

func toFloat(x api.Dy) *big.Float {
	n := new(big.Int)
	for i := len(x.M.Mag) - 1; i >= 0; i-- {
		n.Lsh(n, 32)
		n.Or(n, big.NewInt(int64(x.M.Mag[i])))
	}
	if x.M.Neg {
		n.Neg(n)
	}
	return new(big.Float).SetMantExp(float().SetInt(n), x.E)
}

// exp is the exponential, off by far less than 2^-1000 of itself.
func exp(x *big.Float) *big.Float {
	const halvings = 60
	y := new(big.Float).SetMantExp(x, -halvings)
	s, term := float().SetInt64(1), float().SetInt64(1)
	for i := int64(1); i < 30; i++ {
		term.Mul(term, y)
		term.Quo(term, float().SetInt64(i))
		s.Add(s, term)
	}
	for range halvings {
		s.Mul(s, s)
	}
	return s
}

// gamma is the gamma function, of an x above 0 with at most 100 bits behind the point: with N being 1024, it is N^x / e^N times the sum of N^k / (x (x + 1) .. (x + k)), and a rest below 2^-700 of itself.
func gamma(x api.Dy) *big.Float {
	v := toFloat(x)
	s, term, below := float(), float().SetInt64(1), float().Set(v)
	for k := 0; k < 1024 || term.MantExp(nil) > -100; k++ {
		term.Quo(term, below)
		s.Add(s, term)
		term.Mul(term, float().SetInt64(1024))
		below.Add(below, float().SetInt64(1))
	}
	s.Quo(s, exp(float().SetInt64(1024)))
	tenfold := float().Mul(v, float().SetInt64(10)) // N^x is 2^10x
	whole, _ := tenfold.Int(nil)
	rest, root := tenfold.Sub(tenfold, float().SetInt(whole)), float().SetInt64(2)
	for rest.Sign() > 0 {
		rest.Add(rest, rest)
		root.Sqrt(root)
		if rest.Cmp(float().SetInt64(1)) >= 0 {
			rest.Sub(rest, float().SetInt64(1))
			s.Mul(s, root)
		}
	}
	return new(big.Float).SetMantExp(s, int(whole.Int64()))
}

// near is v, by a little less, or more.
func near(v *big.Float, more bool) *big.Float {
	off := new(big.Float).SetMantExp(float().SetInt64(1), -500)
	if !more {
		off.Neg(off)
	}
	return float().Mul(v, off.Add(off, float().SetInt64(1)))
}

// has is whether v, give or take a little, lies from lo to hi.
func has(lo, hi, v *big.Float) bool {
	return lo.Cmp(near(v, true)) <= 0 && hi.Cmp(near(v, false)) >= 0
}

// places are numbers from 2^-64 to 64.
func places(r *rand.Rand) []api.Dy {
	l := []api.Dy{num(1, -64), num(1, 6), num(1, 0), num(1, 1), num(3, -1), num(1, -1), num(63, 0), num(1, -30), num(255, -2)}
	for range 8 {
		x, _ := dyad.Make(zint.From(1+int(r.Int64()>>r.IntN(60))), r.IntN(12)-69)
		l = append(l, x)
	}
	return l
}

var numbers = [][2]int{{1, 6}, {-1, 30}, {1, 42}, {-1, 30}, {5, 66}, {-691, 2730}, {7, 6}, {-3617, 510}, {43867, 798}, {-174611, 330}}

// words are the chapter's words of Lgamma, of precision w, before it is rounded.
func words(t *testing.T, x api.Dy, w int) api.Iv {
	t.Helper()
	c := calc(t, w)
	ln := func(a api.Iv) api.Iv {
		l, e := expo.LnOf(a, w)
		if e != api.OK {
			t.Fatal("LnOf", a, w, e)
		}
		return l
	}
	n := 0
	for sum := x; dyad.Cmp(sum, num(1, 8)) < 0; n++ {
		sum, _ = dyad.Add(sum, num(1, 0))
	}
	y, b := c.Add(c.Point(x), c.Int(n)), c.Int(1)
	for i := 0; i < n; i++ {
		b = c.Mul(b, c.Add(c.Point(x), c.Int(i)))
	}
	a := c.Mul(c.Sub(y, c.Point(num(1, -1))), ln(y))
	a = c.Sub(a, y)
	a = c.Add(a, c.Scale(ln(c.Scale(konst.Pi(c), 1)), -1))
	r := y
	for k := 1; k <= 10; k++ {
		if k > 1 {
			r = c.Mul(r, c.Mul(y, y))
		}
		above, below := numbers[k-1][0], numbers[k-1][1]
		a = c.Add(a, c.Div(c.Int(above), c.Mul(c.Int(below*2*k*(2*k-1)), r)))
	}
	a = c.Wide(a, num(1, -160))
	if n > 0 {
		a = c.Sub(a, ln(b))
	}
	if c.Err() != api.OK {
		t.Fatal("words", x, w, c.Err())
	}
	return a
}

// P12.1
func TestBernoulliLift(t *testing.T) {
	for k, f := range numbers {
		if n, d, ok := gamm.Bernoulli(k + 1); n != f[0] || d != f[1] || !ok {
			t.Error("Bernoulli", k+1, n, d, ok)
		}
	}
	for _, k := range []int{0, -1, 11, math.MaxInt, math.MinInt} {
		if n, d, ok := gamm.Bernoulli(k); n != 0 || d != 0 || ok {
			t.Error("Bernoulli", k, n, d, ok)
		}
	}
	for _, c := range []struct {
		x    api.Dy
		want int
	}{{num(1, 0), 255}, {num(1, -64), 256}, {num(1, 6), 192}, {num(5, -1), 254}, {num(127, -1), 193}, {long(200, -198), 254}} {
		if n, e := gamm.Lift(c.x); n != c.want || e != api.OK {
			t.Error("Lift", c.x, n, e)
		}
	}
}

// P12.2, P12.3: bit by bit what the chapter's words say.
func TestWords(t *testing.T) {
	r := rand.New(rand.NewPCG(111, 112))
	for _, x := range append(places(r), long(200, -200), long(200, -196)) {
		for _, p := range []int{2, 2 + r.IntN(63), 64} {
			want := calc(t, p).Out(words(t, x, p+64))
			if got, e := gamm.Lgamma(x, p); !equal(got, want) || e != api.OK {
				t.Error("Lgamma", x, p, got, want, e)
			}
			of, e := expo.ExpOf(calc(t, p+64).Out(words(t, x, p+96)), p+32)
			want = calc(t, p).Out(of)
			if got, e2 := gamm.Gamma(x, p); !equal(got, want) || e2 != api.OK || e != api.OK {
				t.Error("Gamma", x, p, got, want, e, e2)
			}
		}
	}
}

// What may not be asked.
func TestErrors(t *testing.T) {
	above, _ := dyad.Add(num(1, 6), num(1, -100))
	below, _ := dyad.Sub(num(1, -64), num(1, -200))
	lift := func(x api.Dy, _ int) (api.Iv, api.Errno) {
		n, e := gamm.Lift(x)
		return api.Iv{Lo: dyad.From(n)}, e
	}
	for name, f := range map[string]func(x api.Dy, p int) (api.Iv, api.Errno){"Lgamma": gamm.Lgamma, "Gamma": gamm.Gamma, "Lift": lift} {
		for _, p := range []int{1, 65, math.MinInt, math.MaxInt} {
			for _, x := range []api.Dy{num(1, 0), {}, num(1, 7)} {
				if got, e := f(x, p); name != "Lift" && (e != api.ErrArg || !equal(got, api.Iv{})) {
					t.Error(name, x, p, got, e)
				}
			}
		}
		for _, c := range []struct {
			x    api.Dy
			want api.Errno
		}{
			{num(2, 0), api.ErrArg}, {num(-2, 0), api.ErrArg}, {num(0, 1), api.ErrArg}, {long(201, -200), api.ErrArg}, {dyad.Neg(long(201, -200)), api.ErrArg}, {long(201, 0), api.ErrArg},
			{api.Dy{}, api.ErrDomain}, {num(-1, 0), api.ErrDomain}, {num(-1, 131072), api.ErrDomain}, {num(-1, -131072), api.ErrDomain},
			{num(65, 0), api.ErrRange}, {above, api.ErrRange}, {below, api.ErrRange}, {num(1, 131072), api.ErrRange}, {num(1, -131072), api.ErrRange},
		} {
			if got, e := f(c.x, 30); e != c.want || !equal(got, api.Iv{}) {
				t.Error(name, c.x, got, e, "want", c.want)
			}
		}
	}
}

// P12.4: the value is in the answer, which is narrow.
func TestValues(t *testing.T) {
	r := rand.New(rand.NewPCG(113, 114))
	for _, x := range places(r) {
		truth := gamma(x)
		for _, p := range []int{2, 30, 64} {
			got, e := gamm.Gamma(x, p)
			if e != api.OK || !has(toFloat(got.Lo), toFloat(got.Hi), truth) {
				t.Error("Gamma", x, p, got, e)
			}
			if top, _ := dyad.Mul(got.Lo, num(1+1<<(p-2), 2-p)); p > 2 && dyad.Cmp(top, got.Hi) < 0 {
				t.Error("Gamma is wide", x, p, got)
			}
			log, e := gamm.Lgamma(x, p)
			if e != api.OK || !has(exp(toFloat(log.Lo)), exp(toFloat(log.Hi)), truth) {
				t.Error("Lgamma", x, p, log, e)
			}
			c := calc(t, 200)
			if wide := c.Sub(c.Point(log.Hi), c.Point(log.Lo)); dyad.Cmp(wide.Hi, num(1, 10-p)) > 0 {
				t.Error("Lgamma is wide", x, p, log)
			}
		}
	}
}

// P12.4: the factorials, and the step to the next one.
func TestSteps(t *testing.T) {
	factorial := dyad.From(1)
	for n := 1; n <= 64; n++ {
		got, e := gamm.Gamma(dyad.From(n), 64)
		log, e2 := gamm.Lgamma(dyad.From(n), 60)
		ln, e3 := expo.Ln(factorial, 60)
		c := calc(t, 100)
		if c.Meet(log, ln); e != api.OK || e2 != api.OK || e3 != api.OK || !iv.Has(got, factorial) || c.Err() != api.OK {
			t.Error("Gamma or Lgamma", n, got, log, e, e2, e3)
		}
		factorial, _ = dyad.Mul(factorial, dyad.From(n))
	}
	r := rand.New(rand.NewPCG(115, 116))
	for _, x := range places(r) {
		next, _ := dyad.Add(x, dyad.From(1))
		if dyad.Cmp(next, dyad.From(64)) > 0 {
			continue
		}
		got, e := gamm.Gamma(x, 64)
		more, e2 := gamm.Gamma(next, 64)
		c := calc(t, 200)
		if c.Meet(more, c.Mul(c.Point(x), got)); e != api.OK || e2 != api.OK || c.Err() != api.OK {
			t.Error("a step", x, got, more, e, e2, c.Err())
		}
	}
}
