package trig_test

import (
	"math"
	"math/big"
	"math/rand/v2"
	"slices"
	"testing"

	"astrolabe/api"
	"astrolabe/dyad"
	"astrolabe/iv"
	"astrolabe/konst"
	"astrolabe/small"
	"astrolabe/trig"
	"astrolabe/zint"
)

// fine is the precision of the floats that answers are held against.
const fine = 4500

func calc(t *testing.T, p int) *iv.Calc {
	t.Helper()
	c, e := iv.New(p)
	if e != api.OK {
		t.Fatal("New", p, e)
	}
	return c
}

// num is m times 2^e, not looked at.
func num(m, e int) api.Dy { return api.Dy{M: zint.From(m), E: e} }

// long is a number with that many bits.
func long(bits, e int) api.Dy {
	one, _ := zint.Shift(zint.From(1), bits-1)
	return api.Dy{M: zint.Add(one, zint.From(1)), E: e}
}

func same(x, y api.Dy) bool {
	return x.E == y.E && x.M.Neg == y.M.Neg && slices.Equal(x.M.Mag, y.M.Mag)
}

func equal(a, b api.Iv) bool { return same(a.Lo, b.Lo) && same(a.Hi, b.Hi) }

func float() *big.Float { return new(big.Float).SetPrec(fine) }

func toFloat(x api.Dy) *big.Float {
	n := new(big.Int)
	for i := len(x.M.Mag) - 1; i >= 0; i-- {
		n.Lsh(n, 32)
		n.Or(n, big.NewInt(int64(x.M.Mag[i])))
	}
	if x.M.Neg {
		n.Neg(n)
	}
	return new(big.Float).SetMantExp(float().SetInt(n), x.E)
}

// sinCos is sine and cosine, off by less than 2^-1200.
func sinCos(x *big.Float) (sin, cos *big.Float) {
	sin, cos = float(), float()
	term := float().SetInt64(1)
	for i := int64(0); i < 20 || term.Sign() != 0 && term.MantExp(nil) > -1300; i++ {
		sum := cos
		if i%2 == 1 {
			sum = sin
		}
		if i%4 < 2 {
			sum.Add(sum, term)
		} else {
			sum.Sub(sum, term)
		}
		term.Mul(term, x)
		term.Quo(term, float().SetInt64(i+1))
	}
	return sin, cos
}

// has is whether v, give or take a little, lies in a.
func has(a api.Iv, v *big.Float) bool {
	off := new(big.Float).SetMantExp(float().SetInt64(1), -1000)
	return toFloat(a.Lo).Cmp(float().Add(v, off)) <= 0 && toFloat(a.Hi).Cmp(float().Sub(v, off)) >= 0
}

// hasAtan is whether the arc tangent of x lies in a, which has no number of a size of 3 or more.
func hasAtan(a api.Iv, x api.Dy) bool {
	low := func(x, y *big.Float) bool { // is x at most the arc tangent of y?
		sin, cos := sinCos(x)
		if cos.Sign() <= 0 {
			return x.Sign() < 0
		}
		return sin.Cmp(cos.Mul(cos, y)) <= 0
	}
	minus := func(x *big.Float) *big.Float { return float().Neg(x) }
	return low(toFloat(a.Lo), toFloat(x)) && low(minus(toFloat(a.Hi)), minus(toFloat(x)))
}

func random(r *rand.Rand, size int) api.Dy {
	x, _ := dyad.Make(zint.From(int(r.Int64()>>r.IntN(60))), size-63)
	if r.IntN(2) == 0 {
		x = dyad.Neg(x)
	}
	return x
}

// places are numbers of sizes up to most.
func places(r *rand.Rand, most int) []api.Dy {
	l := []api.Dy{{}, num(1, 0), num(-1, 0), num(3, 0), num(-7, -1), num(11, 0), num(1, -30), num(-1, -300), num(2047, 0), num(-2047, 0), long(400, -399), long(400, -389)}
	for range 40 {
		l = append(l, random(r, r.IntN(most+8)-7))
	}
	return l
}

// turns are the chapter's words of Turns.
func turns(t *testing.T, x api.Dy, p int) (int, api.Iv) {
	t.Helper()
	c := calc(t, p+32)
	h := c.Scale(konst.Pi(c), -1)
	floor, e := dyad.Floor(c.Add(c.Div(c.Point(x), h), c.Point(num(1, -1))).Lo)
	k, _ := zint.Small(floor)
	rest := c.Sub(c.Point(x), c.Mul(c.Int(k), h))
	if c.Err() != api.OK || e != api.OK {
		t.Fatal("Turns", x, p, c.Err(), e)
	}
	return k, rest
}

// P10.1, P10.2: bit by bit what the chapter's words say.
func TestSinCosWords(t *testing.T) {
	r := rand.New(rand.NewPCG(91, 92))
	for _, x := range places(r, 11) {
		for _, p := range []int{2, 2 + r.IntN(120), 64, 336} {
			k, rest := turns(t, x, p)
			if gotK, got, e := trig.Turns(x, p); gotK != k || !equal(got, rest) || e != api.OK {
				t.Error("Turns", x, p, gotK, got, e)
			}
			for more, call := range []func(x api.Dy, p int) (api.Iv, api.Errno){trig.Sin, trig.Cos} {
				c := calc(t, p+32)
				var want api.Iv
				switch (k + more) & 3 {
				case 0:
					want = small.Sin(c, rest)
				case 1:
					want = small.Cos(c, rest)
				case 2:
					want = c.Neg(small.Sin(c, rest))
				case 3:
					want = c.Neg(small.Cos(c, rest))
				}
				if c.Err() == api.OK {
					want = calc(t, p).Out(want)
				}
				if got, e := call(x, p); !equal(got, want) || e != c.Err() {
					t.Error("Sin or Cos", more, x, p, got, want, e)
				}
			}
		}
	}
}

// P10.3: bit by bit what the chapter's words say.
func TestAtanWords(t *testing.T) {
	r := rand.New(rand.NewPCG(93, 94))
	for _, x := range append(places(r, 40), num(-1, 200), num(1, 1000), num(1025, -10), num(-1023, -10)) {
		for _, p := range []int{2, 2 + r.IntN(120), 336} {
			c := calc(t, p+32)
			positive := x
			positive.M.Neg = false
			z := c.Point(positive)
			above := dyad.Cmp(positive, num(1, 0)) == 1
			if above {
				z = c.Div(c.Int(1), z)
			}
			for range 2 {
				z = c.Div(z, c.Add(c.Int(1), c.Sqrt(c.Add(c.Int(1), c.Mul(z, z)))))
			}
			want := c.Scale(small.Atan(c, z), 2)
			if above {
				want = c.Sub(c.Scale(konst.Pi(c), -1), want)
			}
			if x.M.Neg {
				want = c.Neg(want)
			}
			if c.Err() == api.OK {
				want = calc(t, p).Out(want)
			}
			if got, e := trig.Atan(x, p); !equal(got, want) || e != c.Err() {
				t.Error("Atan", x, p, got, want, e)
			}
		}
	}
}

// What may not be asked.
func TestErrors(t *testing.T) {
	type call = func(x api.Dy, p int) (api.Iv, api.Errno)
	turns := func(x api.Dy, p int) (api.Iv, api.Errno) {
		k, rest, e := trig.Turns(x, p)
		if e != api.OK && k != 0 {
			t.Error("Turns answers beside an error", k)
		}
		return rest, e
	}
	for name, f := range map[string]call{"Turns": turns, "Sin": trig.Sin, "Cos": trig.Cos, "Atan": trig.Atan} {
		for _, c := range []struct {
			x    api.Dy
			p    int
			want api.Errno
		}{
			{num(1, 0), 1, api.ErrArg}, {num(1, 0), 337, api.ErrArg}, {num(1, 0), math.MinInt, api.ErrArg}, {num(1, 0), math.MaxInt, api.ErrArg}, {num(2, 0), 9, api.ErrArg}, {num(0, 1), 9, api.ErrArg},
			{long(401, -400), 9, api.ErrArg}, {num(1, 131073), 9, api.ErrArg}, {num(1, 11), 337, api.ErrArg}, {num(2, 11), 9, api.ErrArg},
		} {
			if got, e := f(c.x, c.p); e != c.want || !equal(got, api.Iv{}) {
				t.Error(name, c.x, c.p, got, e)
			}
		}
		for _, x := range []api.Dy{num(1, 11), num(-1, 11), num(1, 131072), num(-3, 10)} {
			if got, e := f(x, 9); name != "Atan" && (e != api.ErrRange || !equal(got, api.Iv{})) {
				t.Error(name, x, got, e)
			}
		}
		for _, x := range []api.Dy{num(1, -131072), num(-1, -131072)} {
			if got, e := f(x, 9); e != api.ErrRange || !equal(got, api.Iv{}) {
				t.Error(name, x, got, e)
			}
		}
		for _, x := range []api.Dy{num(2047, 0), long(400, -389), dyad.Neg(long(400, -399))} {
			for _, p := range []int{2, 336} {
				if _, e := f(x, p); e != api.OK {
					t.Error(name, x, p, e)
				}
			}
		}
	}
	if got, e := trig.Atan(num(1, 131072), 9); e != api.ErrRange || !equal(got, api.Iv{}) {
		t.Error("Atan far out", got, e)
	}
	if got, e := trig.Sin(num(1, -10000), 9); e != api.ErrRange || !equal(got, api.Iv{}) {
		t.Error("Sin of little: its terms leave the range", got, e)
	}
}

// P10.1: the example; a place left of 0.
func TestTurns(t *testing.T) {
	k, rest, e := trig.Turns(num(3, 0), 30)
	c := calc(t, 60)
	want := api.Iv{Lo: c.Div(c.Int(-1), c.Int(7)).Lo, Hi: num(-1, -3)}
	if k != 2 || !iv.In(rest, want) || e != api.OK {
		t.Error("Turns(3)", k, rest, e)
	}
	for _, c := range []struct{ x, k int }{{0, 0}, {1, 1}, {-1, -1}, {-3, -2}, {7, 4}, {-11, -7}, {2047, 1303}} {
		if k, rest, e := trig.Turns(dyad.From(c.x), 30); k != c.k || e != api.OK || !iv.In(rest, api.Iv{Lo: num(-1, 0), Hi: num(1, 0)}) {
			t.Error("Turns", c, k, rest, e)
		}
	}
}

// P10.4
func TestValues(t *testing.T) {
	r := rand.New(rand.NewPCG(95, 96))
	for _, x := range places(r, 11) {
		sin, cos := sinCos(toFloat(x))
		for _, p := range []int{2, 30, 64, 200, 336} {
			gotSin, e1 := trig.Sin(x, p)
			gotCos, e2 := trig.Cos(x, p)
			if e1 != api.OK || e2 != api.OK {
				if size, _ := dyad.Size(x); size > -200 || p < 200 {
					t.Error("an error", x, p, e1, e2)
				}
				continue
			}
			if !has(gotSin, sin) || !has(gotCos, cos) {
				t.Error("Sin or Cos", x, p, gotSin, gotCos)
			}
			c := calc(t, 400)
			if one := c.Add(c.Mul(gotSin, gotSin), c.Mul(gotCos, gotCos)); !iv.Has(one, num(1, 0)) {
				t.Error("the squares", x, p, one)
			}
			if wide := c.Sub(c.Point(gotSin.Hi), c.Point(gotSin.Lo)); dyad.Cmp(wide.Hi, num(1, 2-p)) > 0 {
				t.Error("Sin is wide", x, p, wide)
			}
		}
	}
	for _, x := range append(places(r, 30), num(1, 100)) {
		for _, p := range []int{2, 30, 64, 200} {
			got, e := trig.Atan(x, p)
			if size, _ := dyad.Size(x); e != api.OK && (size > -200 || p < 200) || e == api.OK && !hasAtan(got, x) {
				t.Error("Atan", x, p, got, e)
			}
		}
	}
}
