package expo_test

import (
	"math"
	"math/big"
	"math/rand/v2"
	"slices"
	"testing"

	"astrolabe/api"
	"astrolabe/dyad"
	"astrolabe/expo"
	"astrolabe/iv"
	"astrolabe/konst"
	"astrolabe/small"
	"astrolabe/zint"
)

// fine is the precision of the floats that answers are held against.
const fine = 2000

func calc(t *testing.T, p int) *iv.Calc {
	t.Helper()
	c, e := iv.New(p)
	if e != api.OK {
		t.Fatal("New", p, e)
	}
	return c
}

// num is m times 2^e, not looked at.
func num(m, e int) api.Dy { return api.Dy{M: zint.From(m), E: e} }

// long is a number with that many bits.
func long(bits, e int) api.Dy {
	one, _ := zint.Shift(zint.From(1), bits-1)
	return api.Dy{M: zint.Add(one, zint.From(1)), E: e}
}

func same(x, y api.Dy) bool {
	return x.E == y.E && x.M.Neg == y.M.Neg && slices.Equal(x.M.Mag, y.M.Mag)
}

func equal(a, b api.Iv) bool { return same(a.Lo, b.Lo) && same(a.Hi, b.Hi) }

func float() *big.Float { return new(big.Float).SetPrec(fine) }

func toFloat(x api.Dy) *big.Float {
	n := new(big.Int)
	for i := len(x.M.Mag) - 1; i >= 0; i-- {
		n.Lsh(n, 32)
		n.Or(n, big.NewInt(int64(x.M.Mag[i])))
	}
	if x.M.Neg {
		n.Neg(n)
	}
	return new(big.Float).SetMantExp(float().SetInt(n), x.E)
}

// exp is the exponential, off by far less than 2^-1500 of itself.
func exp(x *big.Float) *big.Float {
	const halvings = 60
	y := new(big.Float).SetMantExp(x, -halvings)
	s, term := float().SetInt64(1), float().SetInt64(1)
	for i := int64(1); i < 40; i++ {
		term.Mul(term, y)
		term.Quo(term, float().SetInt64(i))
		s.Add(s, term)
	}
	for range halvings {
		s.Mul(s, s)
	}
	return s
}

// near is v, by a little less, or more.
func near(v *big.Float, more bool) *big.Float {
	off := new(big.Float).SetMantExp(float().SetInt64(1), -1000)
	if !more {
		off.Neg(off)
	}
	return float().Mul(v, off.Add(off, float().SetInt64(1)))
}

// hasExp is whether the exponential of x lies in a.
func hasExp(a api.Iv, x api.Dy) bool {
	v := exp(toFloat(x))
	return toFloat(a.Lo).Cmp(near(v, true)) <= 0 && toFloat(a.Hi).Cmp(near(v, false)) >= 0
}

// hasLn is whether the logarithm of x lies in a.
func hasLn(a api.Iv, x api.Dy) bool {
	v := toFloat(x)
	return exp(toFloat(a.Lo)).Cmp(near(v, true)) <= 0 && exp(toFloat(a.Hi)).Cmp(near(v, false)) >= 0
}

func random(r *rand.Rand, size int) api.Dy {
	x, _ := dyad.Make(zint.From(int(r.Int64()>>r.IntN(60))), size-63)
	if r.IntN(2) == 0 {
		x = dyad.Neg(x)
	}
	return x
}

// P9.1: bit by bit what the chapter's words say.
func TestExpWords(t *testing.T) {
	r := rand.New(rand.NewPCG(81, 82))
	places := []api.Dy{{}, num(1, 0), num(-1, 10), num(2047, 0), num(-2047, 0), num(1, -3), num(1, -4), num(-1, -100), num(1, -300)}
	for range 40 {
		places = append(places, random(r, r.IntN(16)-4))
	}
	for _, x := range places {
		p := 2 + r.IntN(200)
		size, some := dyad.Size(x)
		s := size + 3
		if !some || s < 0 {
			s = 0
		}
		c := calc(t, p+32)
		want := small.Exp(c, c.Scale(c.Point(x), -s))
		for i := 0; i < s; i++ {
			want = c.Mul(want, want)
		}
		want = calc(t, p).Out(want)
		if got, e := expo.Exp(x, p); !equal(got, want) || e != api.OK {
			t.Error("Exp", x, p, got, want, e)
		}
	}
}

// P9.2: bit by bit what the chapter's words say.
func TestLnWords(t *testing.T) {
	r := rand.New(rand.NewPCG(83, 84))
	places := []api.Dy{num(1, 0), num(3, -1), num(3, 0), num(1, 90000), num(1, -90000), num(1, -65537), num(5, 3), num(0x7fffffff, -31), long(400, -400), num(0xbfffffff, 0)}
	for range 40 {
		x := random(r, r.IntN(200)-100)
		x.M.Neg = false
		places = append(places, x)
	}
	for _, x := range places {
		p := 2 + r.IntN(200)
		size, some := dyad.Size(x)
		if !some {
			continue
		}
		c, k := calc(t, p+32), size-1
		m := c.Scale(c.Point(x), -k)
		if dyad.Cmp(m.Lo, num(3, -1)) >= 0 {
			m, k = c.Scale(m, -1), k+1
		}
		z := c.Div(c.Sub(m, c.Int(1)), c.Add(m, c.Int(1)))
		want := c.Add(c.Scale(small.Atanh(c, z), 1), c.Mul(c.Int(k), konst.Ln2(c)))
		if c.Err() == api.OK {
			want = calc(t, p).Out(want)
		}
		if got, e := expo.Ln(x, p); !equal(got, want) || e != c.Err() {
			t.Error("Ln", x, p, got, want, e)
		}
	}
}

// P9.1, P9.2: what may not be asked.
func TestErrors(t *testing.T) {
	one := num(1, 0)
	for _, c := range []struct {
		call func(x api.Dy, p int) (api.Iv, api.Errno)
		x    api.Dy
		p    int
		want api.Errno
	}{
		{expo.Exp, one, 1, api.ErrArg}, {expo.Exp, one, 337, api.ErrArg}, {expo.Exp, one, math.MinInt, api.ErrArg}, {expo.Exp, one, math.MaxInt, api.ErrArg},
		{expo.Exp, num(2, 0), 20, api.ErrArg}, {expo.Exp, num(0, 3), 20, api.ErrArg}, {expo.Exp, long(401, -400), 20, api.ErrArg}, {expo.Exp, long(401, 400), 20, api.ErrArg},
		{expo.Exp, num(1, 11), 20, api.ErrRange}, {expo.Exp, num(-1, 11), 20, api.ErrRange}, {expo.Exp, num(1, 131072), 20, api.ErrRange}, {expo.Exp, num(1, 11), 337, api.ErrArg},
		{expo.Exp, num(1, -131072), 20, api.ErrRange}, {expo.Exp, num(1, -30000), 336, api.ErrRange},
		{expo.Ln, one, 1, api.ErrArg}, {expo.Ln, one, 337, api.ErrArg}, {expo.Ln, one, math.MinInt, api.ErrArg}, {expo.Ln, num(2, 0), 20, api.ErrArg}, {expo.Ln, long(401, -400), 20, api.ErrArg},
		{expo.Ln, api.Dy{}, 20, api.ErrDomain}, {expo.Ln, num(-1, 0), 20, api.ErrDomain}, {expo.Ln, num(-1, 131072), 20, api.ErrDomain}, {expo.Ln, api.Dy{}, 1, api.ErrArg},
		{expo.Ln, num(1, 131072), 20, api.ErrRange}, {expo.Ln, num(1, -131072), 20, api.ErrRange},
		{expo.Ln, long(400, -399), 336, api.ErrRange}, // so near 1 that the last terms are below the range
	} {
		if got, e := c.call(c.x, c.p); e != c.want || !equal(got, api.Iv{}) {
			t.Error(c.x, c.p, got, e, "want", c.want)
		}
	}
	for _, x := range []api.Dy{long(400, -390), dyad.Neg(long(400, -390)), one} {
		for _, p := range []int{2, 336} {
			if _, e := expo.Exp(x, p); e != api.OK {
				t.Error("Exp", x, p, e)
			}
		}
	}
}

// P9.3
func TestOfStretches(t *testing.T) {
	r := rand.New(rand.NewPCG(85, 86))
	for range 30 {
		x, y, p := random(r, 5), random(r, 5), 2+r.IntN(100)
		if dyad.Cmp(x, y) > 0 {
			x, y = y, x
		}
		low, _ := expo.Exp(x, p)
		high, _ := expo.Exp(y, p)
		if got, e := expo.ExpOf(api.Iv{Lo: x, Hi: y}, p); e != api.OK || !equal(got, api.Iv{Lo: low.Lo, Hi: high.Hi}) {
			t.Error("ExpOf", x, y, p, got, e)
		}
		low, _ = expo.Ln(x, p)
		high, _ = expo.Ln(y, p)
		got, e := expo.LnOf(api.Iv{Lo: x, Hi: y}, p)
		if dyad.Cmp(x, api.Dy{}) <= 0 {
			if e != api.ErrDomain || !equal(got, api.Iv{}) {
				t.Error("LnOf", x, y, p, got, e)
			}
		} else if e != api.OK || !equal(got, api.Iv{Lo: low.Lo, Hi: high.Hi}) {
			t.Error("LnOf", x, y, p, got, e)
		}
	}
	for _, call := range []func(a api.Iv, p int) (api.Iv, api.Errno){expo.ExpOf, expo.LnOf} {
		for _, c := range []struct {
			a api.Iv
			p int
		}{
			{api.Iv{Lo: num(2, 0), Hi: num(1, 0)}, 20}, {api.Iv{Lo: num(1, 1), Hi: num(1, 0)}, 20}, {api.Iv{Lo: num(1, 0), Hi: num(1, 1)}, 1}, {api.Iv{Lo: num(1, 0), Hi: num(1, 1)}, 337},
			{api.Iv{Lo: num(1, -900), Hi: long(401, -400)}, 20}, {api.Iv{Lo: long(401, -401), Hi: num(9, 100)}, 20}, {api.Iv{Lo: num(-1, 100), Hi: long(401, -400)}, 20},
		} {
			if got, e := call(c.a, c.p); e != api.ErrArg || !equal(got, api.Iv{}) {
				t.Error("a stretch", c.a, c.p, got, e)
			}
		}
	}
	if got, e := expo.ExpOf(api.Iv{Lo: num(1, 0), Hi: num(1, 11)}, 20); e != api.ErrRange || !equal(got, api.Iv{}) {
		t.Error("ExpOf beyond", got, e)
	}
	if got, e := expo.ExpOf(api.Iv{Lo: num(-1, 11), Hi: num(1, 0)}, 20); e != api.ErrRange || !equal(got, api.Iv{}) {
		t.Error("ExpOf below", got, e)
	}
	if got, e := expo.LnOf(api.Iv{Lo: num(-1, 0), Hi: num(1, 131072)}, 20); e != api.ErrDomain || !equal(got, api.Iv{}) {
		t.Error("LnOf: the first error", got, e)
	}
}

// P9.4: the value is in the answer, of each precision; the logarithm of the exponential has x in it; answers are narrow.
func TestValues(t *testing.T) {
	r := rand.New(rand.NewPCG(87, 88))
	places := []api.Dy{{}, num(1, 0), num(-1, 0), num(2047, 0), num(-2047, 0), num(3, -1), num(1, -60), num(1, -1)}
	for range 12 {
		places = append(places, random(r, r.IntN(15)-4))
	}
	for _, x := range places {
		for _, p := range []int{2, 20, 64, 300, 336} {
			got, e := expo.Exp(x, p)
			if e != api.OK || !hasExp(got, x) {
				t.Error("Exp", x, p, got, e)
			}
			if low, e := dyad.Mul(got.Lo, num(1+1<<19, -19)); p > 20 && (e != api.OK || dyad.Cmp(low, got.Hi) < 0) {
				t.Error("Exp is wide", x, p, got)
			}
			if len(x.M.Mag) == 0 && p > 200 {
				continue // what comes is so near 1 that terms of its logarithm are below the range
			}
			if back, e := expo.LnOf(got, p); e != api.OK || !iv.Has(back, x) {
				t.Error("Ln of Exp", x, p, got, back, e)
			}
			positive := x
			positive.M.Neg = false
			if len(x.M.Mag) > 0 {
				if got, e := expo.Ln(positive, p); e != api.OK || !hasLn(got, positive) {
					t.Error("Ln", positive, p, got, e)
				}
			}
		}
	}
}
