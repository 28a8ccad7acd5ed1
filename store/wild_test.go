package store_test

import (
	"math"
	"math/rand/v2"
	"strings"
	"testing"

	"astrolabe/api"
	"astrolabe/bess"
	"astrolabe/cheb"
	"astrolabe/dyad"
	"astrolabe/erff"
	"astrolabe/expo"
	"astrolabe/fun"
	"astrolabe/gamm"
	"astrolabe/iv"
	"astrolabe/konst"
	"astrolabe/small"
	"astrolabe/tabc"
	"astrolabe/trig"
	"astrolabe/zint"
)

// wildInts are whole numbers at edges of what calls allow, and far beyond.
var wildInts = []int{math.MinInt, math.MinInt + 1, -1 << 40, -131073, -100001, -65537, -64, -31, -1, 0, 1, 2, 3, 4, 10, 16, 17, 24, 48, 64, 65, 96, 200, 336, 400, 401, 1 << 20, 1 << 40, math.MaxInt - 1, math.MaxInt}

// wild makes numbers, right or not.
type wild struct{ *rand.Rand }

func (w wild) int() int { return wildInts[w.IntN(len(wildInts))] }

func (w wild) number() api.Dy {
	mag := make([]uint32, w.IntN(4))
	for i := range mag {
		mag[i] = w.Uint32() >> w.IntN(40)
	}
	if len(mag) > 0 && w.IntN(4) > 0 {
		mag[0] |= 1
	}
	x := api.Dy{M: api.Int{Neg: w.IntN(3) == 0, Mag: mag}}
	switch w.IntN(5) {
	case 0:
		x.E = w.int()
	case 1:
		x.E = w.IntN(300000) - 150000
	case 2:
		x.E = w.IntN(40) - 110
	default:
		x.E = w.IntN(8) - 36
	}
	return x
}

func (w wild) stretch() api.Iv {
	a := api.Iv{Lo: w.number(), Hi: w.number()}
	switch {
	case w.IntN(3) == 0:
		a.Hi = a.Lo
	case dyad.Cmp(a.Lo, a.Hi) > 0 && w.IntN(4) > 0:
		a.Lo, a.Hi = a.Hi, a.Lo
	}
	return a
}

func (w wild) piece() api.Piece {
	p := api.Piece{A: w.number(), W: w.IntN(3) - 1, Err: w.number()}
	if w.IntN(5) == 0 {
		p.W = w.int()
	}
	for range w.IntN(19) {
		p.C = append(p.C, w.number())
	}
	return p
}

func (w wild) table() api.Table {
	t := table(w.IntN(30))
	switch w.IntN(10) {
	case 0:
		t.Fun = w.int()
	case 1:
		t.Order = w.int()
	case 2:
		t.A = w.number()
	case 3:
		t.W = w.int()
	case 4:
		t.Prec = w.int()
	case 5:
		t.Degree = w.int()
	case 6:
		t.Pieces = append(t.Pieces, w.piece())
	case 7:
		t.Pieces[0] = w.piece()
	case 8:
		t.Pieces[0].C[0] = w.number()
	}
	return t
}

// zero is whether a stretch is 0 to 0, as it is beside an error.
func zero(a api.Iv) bool { return equal(a, api.Iv{}) }

// P1, P2: whatever the layers of numbers are asked, each call ends, and answers nothing beside an error.
func TestWildNumbers(t *testing.T) {
	w := wild{rand.New(rand.NewPCG(241, 242))}
	stretch := func(name string, a api.Iv, e api.Errno) {
		if e != api.OK && !zero(a) || e == api.OK && !iv.Right(a) {
			t.Errorf("%s: %v %d", name, a, e)
		}
	}
	number := func(name string, x api.Dy, e api.Errno) {
		if e != api.OK && !same(x, api.Dy{}) || e == api.OK && !dyad.Right(x) {
			t.Errorf("%s: %v %d", name, x, e)
		}
	}
	for range 700 {
		x, y, a, n, p := w.number(), w.number(), w.stretch(), w.int(), w.int()
		up := w.IntN(2) == 0
		for name, f := range map[string]func(x, y api.Dy) (api.Dy, api.Errno){"Add": dyad.Add, "Sub": dyad.Sub, "Mul": dyad.Mul} {
			z, e := f(x, y)
			number(name, z, e)
		}
		z, e := dyad.Scale(x, n)
		number("Scale", z, e)
		z, e = dyad.Round(x, p, up)
		number("Round", z, e)
		z, e = dyad.Div(x, y, p, up)
		number("Div", z, e)
		z, e = dyad.Sqrt(x, p, up)
		number("Sqrt", z, e)
		z, ok := dyad.Make(x.M, n)
		if !ok && !same(z, api.Dy{}) || !dyad.Right(z) || !dyad.Right(dyad.Neg(x)) || !dyad.Right(dyad.Half(n)) || !dyad.Right(dyad.From(n)) {
			t.Error("Make, Neg, Half or From", x, n, z, ok)
		}
		whole, e := dyad.Floor(x)
		if !zint.Right(whole) || e != api.OK && len(whole.Mag) > 0 {
			t.Error("Floor", x, whole, e)
		}
		if b, e := dyad.Bytes(x); e == api.OK {
			if back, rest, e := dyad.Take(b); e != api.OK || rest != "" || !same(back, x) {
				t.Error("Bytes", x, back, e)
			}
		}
		for name, f := range map[string]func(x api.Dy, p int) (api.Iv, api.Errno){"Exp": expo.Exp, "Ln": expo.Ln, "Sin": trig.Sin, "Cos": trig.Cos, "Atan": trig.Atan, "Erf": erff.Erf, "Erfc": erff.Erfc, "Lgamma": gamm.Lgamma, "Gamma": gamm.Gamma} {
			b, e := f(x, p)
			stretch(name, b, e)
		}
		b, e := expo.ExpOf(a, p)
		stretch("ExpOf", b, e)
		b, e = expo.LnOf(a, p)
		stretch("LnOf", b, e)
		b, e = bess.J(n, x, p)
		stretch("J", b, e)
		b, e = fun.Eval(w.IntN(12), n, x, p)
		stretch("Eval", b, e)
		z, e = fun.Slope(w.IntN(12), w.int(), x, y, n)
		number("Slope", z, e)
		if k, rest, e := trig.Turns(x, p); e != api.OK && (k != 0 || !zero(rest)) {
			t.Error("Turns", x, p, k, rest, e)
		}
		for name, f := range map[string]func(x api.Dy, p int) (int, api.Errno){"erff.Terms": erff.Terms, "bess.Terms": bess.Terms, "Lift": func(x api.Dy, _ int) (int, api.Errno) { return gamm.Lift(x) }} {
			if n, e := f(x, p); e != api.OK && n != 0 {
				t.Error(name, x, p, n, e)
			}
		}
	}
}

// P1, P2: the same of the calculators.
func TestWildStretches(t *testing.T) {
	w := wild{rand.New(rand.NewPCG(243, 244))}
	for range 700 {
		c, e := iv.New(w.int())
		if e != api.OK {
			continue
		}
		a, b, x, n := w.stretch(), w.stretch(), w.number(), w.int()
		calls := map[string]func() api.Iv{
			"Point": func() api.Iv { return c.Point(x) }, "Int": func() api.Iv { return c.Int(n) }, "Neg": func() api.Iv { return c.Neg(a) }, "Add": func() api.Iv { return c.Add(a, b) }, "Sub": func() api.Iv { return c.Sub(a, b) }, "Mul": func() api.Iv { return c.Mul(a, b) },
			"Div": func() api.Iv { return c.Div(a, b) }, "Sqrt": func() api.Iv { return c.Sqrt(a) }, "Scale": func() api.Iv { return c.Scale(a, n) }, "Wide": func() api.Iv { return c.Wide(a, x) }, "Hull": func() api.Iv { return c.Hull(a, b) }, "Meet": func() api.Iv { return c.Meet(a, b) },
			"Out": func() api.Iv { return c.Out(a) }, "Mid": func() api.Iv { m := c.Mid(a); return api.Iv{Lo: m, Hi: m} }, "Exp": func() api.Iv { return small.Exp(c, a) }, "Sin": func() api.Iv { return small.Sin(c, a) }, "Cos": func() api.Iv { return small.Cos(c, a) },
			"Atan": func() api.Iv { return small.Atan(c, a) }, "Atanh": func() api.Iv { return small.Atanh(c, a) }, "Pi": func() api.Iv { return konst.Pi(c) }, "Ln2": func() api.Iv { return konst.Ln2(c) }, "Root": func() api.Iv { return konst.Root(c) },
		}
		for name, call := range calls {
			c, e = iv.New(c.Prec())
			if got := call(); e != api.OK || c.Err() != api.OK && !zero(got) || c.Err() == api.OK && !iv.Right(got) {
				t.Error(name, a, b, x, n, got, c.Err())
			}
		}
	}
}

// P1, P2: the same of tables, and of their bytes.
func TestWildTables(t *testing.T) {
	w := wild{rand.New(rand.NewPCG(245, 246))}
	for range 3000 {
		tab, x, piece := w.table(), w.number(), w.piece()
		a, e := cheb.Value(piece, x)
		if e != api.OK && !zero(a) {
			t.Error("Value", piece, x, a, e)
		}
		a, e = cheb.Eval(tab, x)
		if e != api.OK && !zero(a) || !cheb.Right(tab) && e != api.ErrArg {
			t.Error("Eval", tab, x, a, e)
		}
		b, e := tabc.Encode(tab)
		if e != api.OK && (b != "" || e != api.ErrArg) || tabc.Size(tab) != len(b) {
			t.Error("Encode", tab, e)
		}
		if len(b) > 0 {
			changed := []byte(b)
			changed[w.IntN(len(b))] = byte(w.IntN(256))
			if got, e := tabc.Decode(string(changed)); e != api.OK && len(got.Pieces) > 0 {
				t.Error("Decode", got, e)
			}
		}
		if _, e := cheb.Node(w.int(), w.int()); e != api.OK && e != api.ErrArg {
			t.Error("Node", e)
		}
	}
	for range 100 {
		if got, used, e := cheb.Build(w.IntN(12), w.int(), w.number(), w.int(), w.int(), w.int(), w.int()); e != api.OK && (len(got.Pieces) > 0 || used > 0 && e != api.ErrFuel) {
			t.Error("Build", got, used, e)
		}
	}
}

// P1, P3: the same of a store; what was handed in is not written into, nor kept.
func TestWildStore(t *testing.T) {
	w := wild{rand.New(rand.NewPCG(247, 248))}
	_, s := format(t, 300)
	names := []string{"", "a", "b", "\x00", strings.Repeat("n", 16), strings.Repeat("n", 17)}
	for range 400 {
		name, tab := names[w.IntN(len(names))], w.table()
		s.Begin()
		if e := s.Put(name, tab); e == api.OK {
			want := text(t, tab)
			_, e := s.Commit()
			tab.Pieces[0].C[0] = num(1, 1)
			if got, e2 := s.Table(0, name); e == api.OK && (e2 != api.OK || text(t, got) != want) {
				t.Error("Table", e, e2)
			}
		}
		s.Drop(names[w.IntN(len(names))])
		s.Upgrade(name, w.int(), w.int(), w.IntN(3))
		s.Build(name, w.int(), w.int(), w.number(), w.int(), w.int(), w.int(), w.IntN(3))
		s.Query(w.int(), name, w.number())
		s.Names(w.int())
		s.Abort()
		s.Prune(w.IntN(40))
		s.Gc()
		if bad, e := s.Scrub(); len(bad) != 0 || e != api.OK {
			t.Error("Scrub", bad, e)
		}
	}
}
