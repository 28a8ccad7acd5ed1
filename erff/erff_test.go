package erff_test

import (
	"math"
	"math/big"
	"math/rand/v2"
	"slices"
	"testing"

	"astrolabe/api"
	"astrolabe/dyad"
	"astrolabe/erff"
	"astrolabe/expo"
	"astrolabe/iv"
	"astrolabe/konst"
	"astrolabe/zint"
)

// fine is the precision of the floats that answers are held against.
const fine = 1200

// root is the root of pi.
const root = "1.77245385090551602729816748334114518279754945612238712821380778985291128459103218137495065673854466541622682362428257066623615286572442260252509370960278706846203769865310512284992517302895082622893209537926796280017463901535147972051670019018523401858544697449491264031392177552590621640541933250090639840761373347747515343366798978936585183640879545116516173876005906739343179133280985484624818490205465485219561325156164746751504273876105610799612710721006037204448367236529661370809432349883166842421384570960912042042778577806869476657"

func calc(t *testing.T, p int) *iv.Calc {
	t.Helper()
	c, e := iv.New(p)
	if e != api.OK {
		t.Fatal("New", p, e)
	}
	return c
}

// num is m times 2^e, not looked at.
func num(m, e int) api.Dy { return api.Dy{M: zint.From(m), E: e} }

// long is a number with that many bits.
func long(bits, e int) api.Dy {
	one, _ := zint.Shift(zint.From(1), bits-1)
	return api.Dy{M: zint.Add(one, zint.From(1)), E: e}
}

func same(x, y api.Dy) bool {
	return x.E == y.E && x.M.Neg == y.M.Neg && slices.Equal(x.M.Mag, y.M.Mag)
}

func equal(a, b api.Iv) bool { return same(a.Lo, b.Lo) && same(a.Hi, b.Hi) }

func float() *big.Float { return new(big.Float).SetPrec(fine) }

func toFloat(x api.Dy) *big.Float {
	n := new(big.Int)
	for i := len(x.M.Mag) - 1; i >= 0; i-- {
		n.Lsh(n, 32)
		n.Or(n, big.NewInt(int64(x.M.Mag[i])))
	}
	if x.M.Neg {
		n.Neg(n)
	}
	return new(big.Float).SetMantExp(float().SetInt(n), x.E)
}

// erf is the error function, by its series of turning signs, which is another one than the chapter's.
func erf(x *big.Float) *big.Float {
	q := float().Mul(x, x)
	s, term := float(), float().Set(x)
	for i := int64(0); term.Sign() != 0 && (i < 100 || term.MantExp(nil) > -900); i++ {
		part := float().Quo(term, float().SetInt64(2*i+1))
		s.Add(s, part)
		term.Mul(term, q)
		term.Quo(term, float().SetInt64(-(i + 1)))
	}
	r, _ := float().SetString(root)
	return s.Quo(s.Mul(s, float().SetInt64(2)), r)
}

// has is whether v, give or take a little, lies in a.
func has(a api.Iv, v *big.Float) bool {
	off := new(big.Float).SetMantExp(float().SetInt64(1), -700)
	return toFloat(a.Lo).Cmp(float().Add(v, off)) <= 0 && toFloat(a.Hi).Cmp(float().Sub(v, off)) >= 0
}

func random(r *rand.Rand, size int) api.Dy {
	x, _ := dyad.Make(zint.From(int(r.Int64()>>r.IntN(60))), size-63)
	if r.IntN(2) == 0 {
		x = dyad.Neg(x)
	}
	return x
}

// places are numbers from -6 to 6.
func places(r *rand.Rand) []api.Dy {
	l := []api.Dy{{}, num(1, 0), num(-1, 0), num(3, 1), num(-3, 1), num(1, -1), num(-7, -1), num(1, -30), num(-1, -100), long(200, -199), dyad.Neg(long(200, -197))}
	for range 12 {
		l = append(l, random(r, r.IntN(9)-6))
	}
	return l
}

// words are the chapter's words of Erf, before p is looked at.
func words(t *testing.T, x api.Dy, p int) (api.Iv, api.Errno) {
	t.Helper()
	if len(x.M.Mag) == 0 {
		return api.Iv{}, api.OK
	}
	c, y := calc(t, p+64), x
	y.M.Neg = false
	q := c.Mul(c.Point(y), c.Point(y))
	square, e := dyad.Mul(y, y)
	if e != api.OK {
		return api.Iv{}, e
	}
	power, e := expo.Exp(dyad.Neg(square), p+64)
	if e != api.OK {
		return api.Iv{}, e
	}
	floor, _ := dyad.Floor(square)
	n, _ := zint.Small(floor)
	s, term := c.Point(y), c.Point(y)
	for i := 1; i <= 4*(n+1)+p+40; i++ {
		term = c.Div(c.Mul(term, c.Scale(q, 1)), c.Int(2*i+1))
		s = c.Add(s, term)
	}
	s = c.Wide(s, term.Hi)
	a := c.Div(c.Mul(c.Scale(s, 1), power), konst.Root(c))
	if x.M.Neg {
		a = c.Neg(a)
	}
	if c.Err() != api.OK {
		return api.Iv{}, c.Err()
	}
	return calc(t, p).Out(a), api.OK
}

// P11.1
func TestTerms(t *testing.T) {
	for _, c := range []struct {
		x       api.Dy
		p, want int
	}{{api.Dy{}, 30, 74}, {num(1, 0), 2, 50}, {num(-1, 0), 2, 50}, {num(7, -3), 200, 244}, {num(3, 1), 200, 388}, {num(-3, 1), 30, 218}, {num(3, -1), 10, 62}, {num(1, -500), 10, 54}} {
		if got, e := erff.Terms(c.x, c.p); got != c.want || e != api.OK {
			t.Error("Terms", c.x, c.p, got, e)
		}
	}
}

// P11.2, P11.3: bit by bit what the chapter's words say.
func TestWords(t *testing.T) {
	r := rand.New(rand.NewPCG(101, 102))
	for _, x := range places(r) {
		for _, p := range []int{2, 2 + r.IntN(100), 200} {
			want, wantE := words(t, x, p)
			if got, e := erff.Erf(x, p); !equal(got, want) || e != wantE {
				t.Error("Erf", x, p, got, want, e)
			}
			want, wantE = words(t, x, p+64)
			if wantE == api.OK {
				c := calc(t, p+64)
				want = calc(t, p).Out(c.Sub(c.Int(1), want))
			}
			if got, e := erff.Erfc(x, p); !equal(got, want) || e != wantE {
				t.Error("Erfc", x, p, got, want, e)
			}
		}
	}
}

// What may not be asked.
func TestErrors(t *testing.T) {
	above, _ := dyad.Add(num(3, 1), num(1, -100))
	terms := func(x api.Dy, p int) (api.Iv, api.Errno) {
		n, e := erff.Terms(x, p)
		return api.Iv{Lo: dyad.From(n)}, e
	}
	for name, f := range map[string]func(x api.Dy, p int) (api.Iv, api.Errno){"Erf": erff.Erf, "Erfc": erff.Erfc, "Terms": terms} {
		for _, c := range []struct {
			x    api.Dy
			p    int
			want api.Errno
		}{
			{num(1, 0), 1, api.ErrArg}, {num(1, 0), 201, api.ErrArg}, {num(1, 0), math.MinInt, api.ErrArg}, {num(1, 0), math.MaxInt, api.ErrArg}, {num(7, 0), 201, api.ErrArg},
			{num(2, 0), 9, api.ErrArg}, {num(0, 1), 9, api.ErrArg}, {num(14, 0), 9, api.ErrArg}, {long(201, -200), 9, api.ErrArg}, {long(201, 0), 9, api.ErrArg}, {num(1, 131073), 9, api.ErrArg},
			{num(7, 0), 30, api.ErrRange}, {num(-7, 0), 30, api.ErrRange}, {above, 30, api.ErrRange}, {dyad.Neg(above), 30, api.ErrRange}, {num(1, 131072), 30, api.ErrRange}, {num(1, -40000), 30, api.ErrRange},
		} {
			if got, e := f(c.x, c.p); e != c.want || !equal(got, api.Iv{}) {
				t.Error(name, c.x, c.p, got, e, "want", c.want)
			}
		}
		for _, x := range []api.Dy{long(200, -200), num(3, 1), num(-3, 1), {}} {
			for _, p := range []int{2, 200} {
				if _, e := f(x, p); e != api.OK {
					t.Error(name, x, p, e)
				}
			}
		}
	}
	if got, e := erff.Erf(num(1, -1000), 100); e != api.ErrRange || !equal(got, api.Iv{}) {
		t.Error("Erf of little: its terms leave the range", got, e)
	}
	if got, e := erff.Erf(api.Dy{}, 30); e != api.OK || !equal(got, api.Iv{}) {
		t.Error("Erf(0)", got, e)
	}
	if got, e := erff.Erfc(api.Dy{}, 30); e != api.OK || !equal(got, api.Iv{Lo: num(1, 0), Hi: num(1, 0)}) {
		t.Error("Erfc(0)", got, e)
	}
}

// P11.4
func TestValues(t *testing.T) {
	r := rand.New(rand.NewPCG(103, 104))
	for _, x := range places(r) {
		truth := erf(toFloat(x))
		rest := float().Sub(float().SetInt64(1), truth)
		for _, p := range []int{2, 30, 64, 200} {
			if size, _ := dyad.Size(x); size < -90 && p > 100 {
				continue // its terms leave the range
			}
			got, e1 := erff.Erf(x, p)
			gotC, e2 := erff.Erfc(x, p)
			if e1 != api.OK || e2 != api.OK || !has(got, truth) || !has(gotC, rest) {
				t.Error("Erf or Erfc", x, p, got, gotC, e1, e2)
			}
			back, e := erff.Erf(dyad.Neg(x), p)
			c := calc(t, 400)
			if e != api.OK || !equal(back, c.Neg(got)) {
				t.Error("Erf of -x", x, p, got, back)
			}
			if one := c.Add(got, gotC); !iv.Has(one, num(1, 0)) {
				t.Error("together", x, p, one)
			}
			for _, a := range []api.Iv{got, gotC} {
				if wide := c.Sub(c.Point(a.Hi), c.Point(a.Lo)); dyad.Cmp(wide.Hi, num(1, 3-p)) > 0 {
					t.Error("wide", x, p, wide)
				}
			}
		}
	}
}
