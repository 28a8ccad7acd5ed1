package iv_test

import (
	"math"
	"math/big"
	"math/rand/v2"
	"slices"
	"testing"

	"astrolabe/api"
	"astrolabe/dyad"
	"astrolabe/iv"
	"astrolabe/zint"
)

// power is 2^e as a fraction.
func power(e int) *big.Rat {
	p := new(big.Int).Lsh(big.NewInt(1), uint(max(e, -e)))
	if e < 0 {
		return new(big.Rat).SetFrac(big.NewInt(1), p)
	}
	return new(big.Rat).SetInt(p)
}

func toRat(x api.Dy) *big.Rat {
	n := new(big.Int)
	for i := len(x.M.Mag) - 1; i >= 0; i-- {
		n.Lsh(n, 32)
		n.Or(n, big.NewInt(int64(x.M.Mag[i])))
	}
	if x.M.Neg {
		n.Neg(n)
	}
	return new(big.Rat).Mul(new(big.Rat).SetInt(n), power(x.E))
}

// fromRat is the number of a fraction whose denominator is a power of 2.
func fromRat(v *big.Rat) api.Dy {
	m, e := new(big.Int).Abs(v.Num()), 1-v.Denom().BitLen()
	for m.Sign() != 0 && m.Bit(0) == 0 {
		m.Rsh(m, 1)
		e++
	}
	if m.Sign() == 0 {
		return api.Dy{}
	}
	a := api.Int{Neg: v.Sign() < 0}
	for m.Sign() > 0 {
		a.Mag = append(a.Mag, uint32(new(big.Int).And(m, big.NewInt(math.MaxUint32)).Uint64()))
		m.Rsh(m, 32)
	}
	return api.Dy{M: a, E: e}
}

// rounded is v to p bits, down or up.
func rounded(v *big.Rat, p int, up bool) *big.Rat {
	if v.Sign() == 0 {
		return v
	}
	a := new(big.Rat).Abs(v)
	s := a.Num().BitLen() - a.Denom().BitLen() - 1
	for a.Cmp(power(s)) >= 0 {
		s++
	}
	parts := new(big.Rat).Mul(v, power(p-s))
	n := new(big.Int).Div(parts.Num(), parts.Denom())
	if up && !parts.IsInt() {
		n.Add(n, big.NewInt(1))
	}
	return new(big.Rat).Mul(new(big.Rat).SetInt(n), power(s-p))
}

// outward is the stretch from the least of l, rounded down, to the greatest, rounded up.
func outward(p int, l ...*big.Rat) api.Iv {
	lo, hi := l[0], l[0]
	for _, v := range l {
		if v.Cmp(lo) < 0 {
			lo = v
		}
		if v.Cmp(hi) > 0 {
			hi = v
		}
	}
	return api.Iv{Lo: fromRat(rounded(lo, p, false)), Hi: fromRat(rounded(hi, p, true))}
}

func same(x, y api.Dy) bool {
	return x.E == y.E && x.M.Neg == y.M.Neg && slices.Equal(x.M.Mag, y.M.Mag)
}

func equal(a, b api.Iv) bool { return same(a.Lo, b.Lo) && same(a.Hi, b.Hi) }

// num is m times 2^e, not looked at.
func num(m, e int) api.Dy { return api.Dy{M: zint.From(m), E: e} }

// ints is the stretch from m times 2^e to n times 2^e.
func ints(m, n, e int) api.Iv {
	lo, _ := dyad.Make(zint.From(m), e)
	hi, _ := dyad.Make(zint.From(n), e)
	return api.Iv{Lo: lo, Hi: hi}
}

// calc is a calculator that must be there.
func calc(t *testing.T, p int) *iv.Calc {
	t.Helper()
	c, e := iv.New(p)
	if e != api.OK || c == nil {
		t.Fatal("New", p, e)
	}
	return c
}

func number(r *rand.Rand) api.Dy {
	mag := make([]uint32, r.IntN(4))
	for i := range mag {
		mag[i] = r.Uint32() >> r.IntN(32)
	}
	x, _ := dyad.Make(zint.Make(r.IntN(2) == 0, mag), r.IntN(80)-100)
	return x
}

// stretch makes a right stretch; some have one number only, some end at 0.
func stretch(r *rand.Rand) api.Iv {
	a, b := number(r), number(r)
	switch r.IntN(6) {
	case 0:
		b = a
	case 1:
		b = api.Dy{}
	}
	if dyad.Cmp(a, b) > 0 {
		a, b = b, a
	}
	return api.Iv{Lo: a, Hi: b}
}

// wrong are stretches that are not right.
func wrong() []api.Iv {
	return []api.Iv{
		{Lo: num(1, 0), Hi: num(0, 0)}, {Lo: num(2, 0), Hi: num(3, 0)}, {Lo: num(1, 0), Hi: num(4, 0)}, {Lo: num(-1, 1), Hi: num(-3, 0)},
		{Lo: num(1, 131073), Hi: num(1, 131073)}, {Lo: api.Dy{M: api.Int{Neg: true}}}, {Hi: num(0, 7)},
	}
}

// P6.1
func TestRightHasIn(t *testing.T) {
	for _, a := range []api.Iv{{}, ints(-1, 1, 0), ints(5, 5, -9), {Lo: num(-1, 131072), Hi: num(1, 131072)}} {
		if !iv.Right(a) {
			t.Error("not Right", a)
		}
	}
	for _, a := range wrong() {
		if iv.Right(a) || iv.Has(a, num(1, 0)) || iv.Has(a, api.Dy{}) || iv.In(a, ints(-9, 9, 100)) || iv.In(api.Iv{}, a) || iv.In(a, a) {
			t.Error("Right, Has or In", a)
		}
	}
	for _, c := range []struct {
		x    api.Dy
		want bool
	}{{num(-3, -1), true}, {num(-7, -2), false}, {api.Dy{}, true}, {num(1, 2), true}, {num(9, -1), false}, {num(2, 0), false}, {num(0, 1), false}} {
		if iv.Has(ints(-3, 8, -1), c.x) != c.want {
			t.Error("Has", c.x)
		}
	}
	for _, c := range []struct {
		a    api.Iv
		want bool
	}{{ints(-3, 8, -1), true}, {ints(0, 0, 0), true}, {ints(-4, 8, -1), false}, {ints(-3, 9, -1), false}, {ints(5, 6, 0), false}} {
		if iv.In(c.a, ints(-3, 8, -1)) != c.want {
			t.Error("In", c.a)
		}
	}
}

// P6.1
func TestNew(t *testing.T) {
	for _, p := range []int{1, 0, -1, 401, math.MaxInt, math.MinInt} {
		if c, e := iv.New(p); c != nil || e != api.ErrArg {
			t.Error("New", p, c, e)
		}
	}
	for _, p := range []int{2, 64, 400} {
		if c := calc(t, p); c.Prec() != p || c.Err() != api.OK {
			t.Error("New", p, c.Prec(), c.Err())
		}
	}
}

// calls are the calls of a calculator, each with the stretch a (or two of it), and the answer as a stretch.
func calls(c *iv.Calc) map[string]func(a api.Iv) api.Iv {
	good := ints(1, 2, 0)
	return map[string]func(a api.Iv) api.Iv{
		"Neg":    c.Neg,
		"Add 1":  func(a api.Iv) api.Iv { return c.Add(a, good) },
		"Add 2":  func(a api.Iv) api.Iv { return c.Add(good, a) },
		"Sub 1":  func(a api.Iv) api.Iv { return c.Sub(a, good) },
		"Sub 2":  func(a api.Iv) api.Iv { return c.Sub(good, a) },
		"Mul 1":  func(a api.Iv) api.Iv { return c.Mul(a, good) },
		"Mul 2":  func(a api.Iv) api.Iv { return c.Mul(good, a) },
		"Div 1":  func(a api.Iv) api.Iv { return c.Div(a, good) },
		"Div 2":  func(a api.Iv) api.Iv { return c.Div(good, a) },
		"Sqrt":   c.Sqrt,
		"Scale":  func(a api.Iv) api.Iv { return c.Scale(a, 1) },
		"Wide":   func(a api.Iv) api.Iv { return c.Wide(a, num(1, 0)) },
		"Hull":   func(a api.Iv) api.Iv { return c.Hull(good, a, good) },
		"Meet 1": func(a api.Iv) api.Iv { return c.Meet(a, good) },
		"Meet 2": func(a api.Iv) api.Iv { return c.Meet(good, a) },
		"Mid":    func(a api.Iv) api.Iv { m := c.Mid(a); return api.Iv{Lo: m, Hi: m} },
		"Out":    c.Out,
	}
}

// P6.1: what is not right has the error ErrArg.
func TestNotRight(t *testing.T) {
	for name := range calls(calc(t, 30)) {
		for _, a := range wrong() {
			c := calc(t, 30)
			if got := calls(c)[name](a); c.Err() != api.ErrArg || !equal(got, api.Iv{}) {
				t.Error(name, a, got, c.Err())
			}
		}
	}
	for _, x := range []api.Dy{num(2, 0), num(0, 1), num(1, 131073)} {
		c := calc(t, 30)
		if got := c.Point(x); c.Err() != api.ErrArg || !equal(got, api.Iv{}) {
			t.Error("Point", x, got, c.Err())
		}
		c = calc(t, 30)
		if got := c.Wide(ints(1, 2, 0), x); c.Err() != api.ErrArg || !equal(got, api.Iv{}) {
			t.Error("Wide", x, got, c.Err())
		}
	}
}

// P6.1: once there was an error, each call answers 0, and leaves it.
func TestErrorStays(t *testing.T) {
	c := calc(t, 30)
	c.Div(c.Int(1), c.Int(0))
	if c.Err() != api.ErrDomain {
		t.Fatal("Div by 0", c.Err())
	}
	for name, call := range calls(c) {
		for _, a := range append(wrong(), ints(1, 2, 0)) {
			if got := call(a); !equal(got, api.Iv{}) || c.Err() != api.ErrDomain {
				t.Error(name, got, c.Err())
			}
		}
	}
	if !equal(c.Int(7), api.Iv{}) || !equal(c.Point(num(7, 0)), api.Iv{}) || !equal(c.Point(num(2, 0)), api.Iv{}) || !equal(c.Hull(), api.Iv{}) {
		t.Error("Int, Point or Hull behind an error")
	}
	if c.Err() != api.ErrDomain || c.Prec() != 30 {
		t.Error("Err or Prec behind an error", c.Err(), c.Prec())
	}
}

// P6.1: an error of chapter 5 is the calculator's.
func TestErrors(t *testing.T) {
	top, least, far := ints(1, 1, 65535), ints(1, 1, -65537), api.Iv{Lo: num(1, 131072), Hi: num(1, 131072)}
	for name, c := range map[string]struct {
		do   func(c *iv.Calc) api.Iv
		want api.Errno
	}{
		"Add":       {func(c *iv.Calc) api.Iv { return c.Add(top, top) }, api.ErrRange},
		"Sub":       {func(c *iv.Calc) api.Iv { return c.Sub(top, c.Neg(top)) }, api.ErrRange},
		"Mul above": {func(c *iv.Calc) api.Iv { return c.Mul(top, top) }, api.ErrRange},
		"Mul below": {func(c *iv.Calc) api.Iv { return c.Mul(least, least) }, api.ErrRange},
		"Mul between": {func(c *iv.Calc) api.Iv {
			return c.Mul(api.Iv{Lo: num(-1, 0), Hi: num(1, -40000)}, api.Iv{Lo: num(-1, 0), Hi: num(1, -40000)})
		}, api.ErrRange},
		"Div by 0":   {func(c *iv.Calc) api.Iv { return c.Div(far, ints(-1, 1, 0)) }, api.ErrDomain},
		"Div to 0":   {func(c *iv.Calc) api.Iv { return c.Div(top, ints(-1, 0, 0)) }, api.ErrDomain},
		"Div from 0": {func(c *iv.Calc) api.Iv { return c.Div(top, ints(0, 1, 0)) }, api.ErrDomain},
		"Div":        {func(c *iv.Calc) api.Iv { return c.Div(top, least) }, api.ErrRange},
		"Sqrt":       {func(c *iv.Calc) api.Iv { return c.Sqrt(ints(-1, 1, 0)) }, api.ErrDomain},
		"Sqrt far":   {func(c *iv.Calc) api.Iv { return c.Sqrt(far) }, api.ErrRange},
		"Scale":      {func(c *iv.Calc) api.Iv { return c.Scale(api.Iv{}, 100001) }, api.ErrRange},
		"Scale up":   {func(c *iv.Calc) api.Iv { return c.Scale(top, 1) }, api.ErrRange},
		"Wide":       {func(c *iv.Calc) api.Iv { return c.Wide(top, num(-1, 0)) }, api.ErrArg},
		"Wide far":   {func(c *iv.Calc) api.Iv { return c.Wide(top, num(1, 65535)) }, api.ErrRange},
		"Hull":       {func(c *iv.Calc) api.Iv { return c.Hull() }, api.ErrArg},
		"Meet":       {func(c *iv.Calc) api.Iv { return c.Meet(ints(1, 2, 0), ints(5, 6, -1)) }, api.ErrNone},
		"Mid":        {func(c *iv.Calc) api.Iv { m := c.Mid(top); return api.Iv{Lo: m} }, api.ErrRange},
		"Mid below":  {func(c *iv.Calc) api.Iv { m := c.Mid(api.Iv{Hi: num(1, -65537)}); return api.Iv{Hi: m} }, api.ErrRange},
		"Out":        {func(c *iv.Calc) api.Iv { return c.Out(far) }, api.ErrRange},
	} {
		calculator := calc(t, 20)
		if got := c.do(calculator); calculator.Err() != c.want || !equal(got, api.Iv{}) {
			t.Error(name, got, calculator.Err())
		}
	}
	c := calc(t, 20)
	if !equal(c.Point(num(1, 131072)), far) || !equal(c.Neg(far), api.Iv{Lo: num(-1, 131072), Hi: num(-1, 131072)}) || !equal(c.Hull(far, top), api.Iv{Lo: top.Lo, Hi: far.Hi}) || !equal(c.Meet(far, far), far) || c.Err() != api.OK {
		t.Error("what reckons nothing asks no range", c.Err())
	}
}

// P6.2
func TestReckoning(t *testing.T) {
	four := calc(t, 4)
	if got := four.Div(four.Int(1), four.Int(3)); !equal(got, api.Iv{Lo: num(5, -4), Hi: num(11, -5)}) {
		t.Error("1 / 3", got)
	}
	r := rand.New(rand.NewPCG(61, 62))
	for range 3000 {
		p := 2 + r.IntN(80)
		c, a, b := calc(t, p), stretch(r), stretch(r)
		al, ah, bl, bh := toRat(a.Lo), toRat(a.Hi), toRat(b.Lo), toRat(b.Hi)
		sum := func(x, y *big.Rat) *big.Rat { return new(big.Rat).Add(x, y) }
		less := func(x, y *big.Rat) *big.Rat { return new(big.Rat).Sub(x, y) }
		times := func(x, y *big.Rat) *big.Rat { return new(big.Rat).Mul(x, y) }
		if got := c.Add(a, b); !equal(got, outward(p, sum(al, bl), sum(ah, bh))) {
			t.Error("Add", p, a, b, got)
		}
		if got := c.Sub(a, b); !equal(got, outward(p, less(al, bh), less(ah, bl))) {
			t.Error("Sub", p, a, b, got)
		}
		if got := c.Mul(a, b); !equal(got, outward(p, times(al, bl), times(al, bh), times(ah, bl), times(ah, bh))) {
			t.Error("Mul", p, a, b, got)
		}
		if got := c.Neg(a); !equal(got, api.Iv{Lo: fromRat(new(big.Rat).Neg(ah)), Hi: fromRat(new(big.Rat).Neg(al))}) {
			t.Error("Neg", a, got)
		}
		if bl.Sign()*bh.Sign() > 0 {
			by := func(x, y *big.Rat) *big.Rat { return new(big.Rat).Quo(x, y) }
			if got := c.Div(a, b); !equal(got, outward(p, by(al, bl), by(al, bh), by(ah, bl), by(ah, bh))) {
				t.Error("Div", p, a, b, got)
			}
		}
		if al.Sign() >= 0 {
			lo, _ := dyad.Sqrt(a.Lo, p, false)
			hi, _ := dyad.Sqrt(a.Hi, p, true)
			if got := c.Sqrt(a); !equal(got, api.Iv{Lo: lo, Hi: hi}) {
				t.Error("Sqrt", p, a, got)
			}
		}
		if c.Err() != api.OK {
			t.Error("an error", c.Err())
		}
	}
	c := calc(t, 2)
	if long := num(math.MaxInt, 0); !equal(c.Point(long), api.Iv{Lo: long, Hi: long}) || !equal(c.Int(math.MaxInt), api.Iv{Lo: long, Hi: long}) {
		t.Error("Point and Int are not rounded")
	}
	if got := c.Int(math.MinInt); !equal(got, ints(-1, -1, 63)) {
		t.Error("Int", got)
	}
}

// P6.3
func TestOtherCalls(t *testing.T) {
	r := rand.New(rand.NewPCG(63, 64))
	for range 3000 {
		p := 2 + r.IntN(80)
		c, a, b, d, n := calc(t, p), stretch(r), stretch(r), number(r), r.IntN(100)-50
		al, ah, bl, bh := toRat(a.Lo), toRat(a.Hi), toRat(b.Lo), toRat(b.Hi)
		d.M.Neg = false
		if got := c.Scale(a, n); !equal(got, api.Iv{Lo: fromRat(new(big.Rat).Mul(al, power(n))), Hi: fromRat(new(big.Rat).Mul(ah, power(n)))}) {
			t.Error("Scale", a, n, got)
		}
		if got := c.Wide(a, d); !equal(got, outward(p, new(big.Rat).Sub(al, toRat(d)), new(big.Rat).Add(ah, toRat(d)))) {
			t.Error("Wide", a, d, got)
		}
		if got := c.Out(a); !equal(got, outward(p, al, ah)) {
			t.Error("Out", a, got)
		}
		mid := new(big.Rat).Mul(new(big.Rat).Add(al, ah), power(-1))
		if got := c.Mid(a); !same(got, fromRat(rounded(mid, p, false))) {
			t.Error("Mid", a, got)
		}
		lo, hi, low, high := a.Lo, a.Hi, b.Lo, b.Hi
		if al.Cmp(bl) > 0 {
			lo, low = low, lo
		}
		if ah.Cmp(bh) < 0 {
			hi, high = high, hi
		}
		if got := c.Hull(a, b); !equal(got, api.Iv{Lo: lo, Hi: hi}) || !equal(c.Hull(a), a) {
			t.Error("Hull", a, b, got)
		}
		if c.Err() != api.OK {
			t.Error("an error", c.Err())
		}
		if got := c.Meet(a, b); toRat(low).Cmp(toRat(high)) <= 0 && !equal(got, api.Iv{Lo: low, Hi: high}) {
			t.Error("Meet", a, b, got, c.Err())
		}
	}
	c := calc(t, 30)
	if got := c.Meet(ints(1, 2, 0), ints(2, 3, 0)); !equal(got, ints(2, 2, 0)) {
		t.Error("Meet at an end", got)
	}
	if got := c.Hull(ints(1, 2, 0), ints(-5, -4, 0), ints(7, 7, 0)); !equal(got, ints(-5, 7, 0)) {
		t.Error("Hull of three", got)
	}
	if got := c.Wide(ints(1, 2, 0), api.Dy{}); !equal(got, ints(1, 2, 0)) {
		t.Error("Wide by 0", got)
	}
}

// inside is a number of a.
func inside(r *rand.Rand, a api.Iv) *big.Rat {
	k := big.NewRat(int64(r.IntN(9)), 8)
	width := new(big.Rat).Sub(toRat(a.Hi), toRat(a.Lo))
	return width.Add(width.Mul(width, k), toRat(a.Lo))
}

// has is whether v lies in a.
func has(a api.Iv, v *big.Rat) bool { return toRat(a.Lo).Cmp(v) <= 0 && v.Cmp(toRat(a.Hi)) <= 0 }

// P6.4
func TestInclusion(t *testing.T) {
	r := rand.New(rand.NewPCG(65, 66))
	for range 3000 {
		c, a, b := calc(t, 2+r.IntN(60)), stretch(r), stretch(r)
		x, y := inside(r, a), inside(r, b)
		if !has(c.Add(a, b), new(big.Rat).Add(x, y)) || !has(c.Sub(a, b), new(big.Rat).Sub(x, y)) || !has(c.Mul(a, b), new(big.Rat).Mul(x, y)) {
			t.Error("Add, Sub or Mul", a, b, x, y)
		}
		part := api.Iv{Lo: fromRat(x), Hi: a.Hi}
		if !iv.In(c.Add(part, b), c.Add(a, b)) || !iv.In(c.Mul(part, b), c.Mul(a, b)) || !iv.In(c.Out(part), c.Out(a)) || !iv.In(c.Neg(part), c.Neg(a)) {
			t.Error("a part", a, part, b)
		}
		if !iv.Has(b, api.Dy{}) && (!has(c.Div(a, b), new(big.Rat).Quo(x, y)) || !iv.In(c.Div(part, b), c.Div(a, b))) {
			t.Error("Div", a, b, x, y)
		}
		if !a.Lo.M.Neg {
			root := c.Sqrt(a)
			if v := toRat(root.Lo); new(big.Rat).Mul(v, v).Cmp(x) > 0 {
				t.Error("Sqrt", a, root)
			}
			if v := toRat(root.Hi); new(big.Rat).Mul(v, v).Cmp(x) < 0 {
				t.Error("Sqrt", a, root)
			}
		}
		if c.Err() != api.OK {
			t.Error("an error", c.Err())
		}
	}
}

// P3: what is answered has no spare room in what was handed in, nor in another answer.
func TestSpareRoom(t *testing.T) {
	c := calc(t, 100)
	x := api.Dy{M: api.Int{Mag: []uint32{3, 5, 88, 88}[:2]}, E: 4}
	a := api.Iv{Lo: x, Hi: x}
	answers := []api.Iv{c.Point(x), c.Neg(a), c.Add(a, c.Int(0)), c.Sub(a, c.Int(0)), c.Mul(a, c.Int(1)), c.Scale(a, 2), c.Wide(a, api.Dy{}), c.Hull(a), c.Hull(a, a), c.Meet(a, a), c.Out(a), {Lo: c.Mid(a)}}
	for i, b := range answers {
		_ = append(b.Lo.M.Mag, 77)
		_ = append(b.Hi.M.Mag, 66)
		if !slices.Equal(x.M.Mag[:4], []uint32{3, 5, 88, 88}) {
			t.Fatal("spare room is shared", i)
		}
	}
	seven := c.Int(7)
	seven.Lo.M.Mag[0] = 9
	if seven.Hi.M.Mag[0] != 7 || c.Err() != api.OK {
		t.Error("Int: both numbers share", seven, c.Err())
	}
}
