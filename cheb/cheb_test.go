package cheb_test

import (
	"math"
	"math/rand/v2"
	"slices"
	"testing"

	"astrolabe/api"
	"astrolabe/cheb"
	"astrolabe/dyad"
	"astrolabe/fun"
	"astrolabe/iv"
	"astrolabe/konst"
	"astrolabe/trig"
	"astrolabe/zint"
)

func calc(t *testing.T, p int) *iv.Calc {
	t.Helper()
	c, e := iv.New(p)
	if e != api.OK {
		t.Fatal("New", p, e)
	}
	return c
}

// num is m times 2^e, not looked at.
func num(m, e int) api.Dy { return api.Dy{M: zint.From(m), E: e} }

// long is a number with that many bits.
func long(bits, e int) api.Dy {
	one, _ := zint.Shift(zint.From(1), bits-1)
	return api.Dy{M: zint.Add(one, zint.From(1)), E: e}
}

func same(x, y api.Dy) bool {
	return x.E == y.E && x.M.Neg == y.M.Neg && slices.Equal(x.M.Mag, y.M.Mag)
}

func equal(a, b api.Iv) bool { return same(a.Lo, b.Lo) && same(a.Hi, b.Hi) }

func samePiece(p, q api.Piece) bool {
	return same(p.A, q.A) && p.W == q.W && slices.EqualFunc(p.C, q.C, same) && same(p.Err, q.Err)
}

func sameTable(s, t api.Table) bool {
	return s.Fun == t.Fun && s.Order == t.Order && same(s.A, t.A) && s.W == t.W && s.Prec == t.Prec && s.Degree == t.Degree && slices.EqualFunc(s.Pieces, t.Pieces, samePiece)
}

// must is x, and fails, if there is an error.
func must(t *testing.T) func(x api.Dy, e api.Errno) api.Dy {
	return func(x api.Dy, e api.Errno) api.Dy {
		t.Helper()
		if e != api.OK {
			t.Fatal("an error", e)
		}
		return x
	}
}

// end is where a stretch ends.
func end(a api.Dy, w int) api.Dy {
	b, _ := dyad.Add(a, dyad.Half(w))
	return b
}

// P15.1
func TestNode(t *testing.T) {
	for d := 1; d <= api.MaxDegree; d++ {
		for j := 0; j <= d; j++ {
			c := calc(t, 64)
			angle := c.Mid(c.Div(c.Mul(konst.Pi(c), c.Int(2*j+1)), c.Int(2*(d+1))))
			cos, e := trig.Cos(angle, 64)
			want := c.Mid(cos)
			got, e2 := cheb.Node(j, d)
			if !same(got, want) || e != api.OK || e2 != api.OK {
				t.Error("Node", j, d, got, want, e, e2)
			}
			if dyad.Cmp(got, num(-1, 0)) <= 0 || dyad.Cmp(got, num(1, 0)) >= 0 {
				t.Error("Node is not between -1 and 1", j, d, got)
			}
		}
	}
	for _, c := range [][2]int{{0, 0}, {0, -1}, {0, 17}, {-1, 3}, {4, 3}, {math.MinInt, 3}, {math.MaxInt, 16}, {0, math.MaxInt}, {0, math.MinInt}, {17, 16}} {
		if got, e := cheb.Node(c[0], c[1]); e != api.ErrArg || !same(got, api.Dy{}) {
			t.Error("Node", c, got, e)
		}
	}
	half, _ := cheb.Node(0, 2) // the cosine of 30 degrees
	c := calc(t, 100)
	if square := c.Wide(c.Mul(c.Point(half), c.Point(half)), num(1, -60)); !iv.Has(square, num(3, -2)) {
		t.Error("Node(0, 2)", half)
	}
}

// value are the chapter's words of Value, of what it may be asked.
func value(t *testing.T, p api.Piece, x api.Dy) api.Iv {
	t.Helper()
	do := must(t)
	m := do(dyad.Add(p.A, num(1, p.W-1)))
	point := do(dyad.Scale(do(dyad.Sub(x, m)), 1-p.W))
	c := calc(t, 96)
	u, v := c.Int(0), c.Int(0)
	for k := len(p.C) - 1; k >= 1; k-- {
		w := c.Add(c.Sub(c.Mul(c.Scale(c.Point(point), 1), u), v), c.Point(p.C[k]))
		u, v = w, u
	}
	a := c.Add(c.Sub(c.Mul(c.Point(point), u), v), c.Point(p.C[0]))
	if c.Err() != api.OK {
		t.Fatal("Value's words", c.Err())
	}
	return a
}

// P15.2
func TestValue(t *testing.T) {
	r := rand.New(rand.NewPCG(131, 132))
	random := func() api.Dy {
		x, _ := dyad.Make(zint.From(int(r.Uint64()>>r.IntN(64))), r.IntN(40)-80)
		return x
	}
	for range 300 {
		p := api.Piece{A: random(), W: r.IntN(129) - 64, C: make([]api.Dy, 2+r.IntN(16)), Err: num(5, 3)}
		for i := range p.C {
			p.C[i] = random()
		}
		x := random()
		if got, e := cheb.Value(p, x); e != api.OK || !equal(got, value(t, p, x)) {
			t.Error("Value", p, x, got, e)
		}
	}
	// 3 and 5 times t and 7 times (2 t t less 1), t being 1/2.
	p := api.Piece{A: num(1, 1), W: 2, C: []api.Dy{num(3, 0), num(5, 0), num(7, 0)}}
	if got, e := cheb.Value(p, num(5, 0)); e != api.OK || !equal(got, api.Iv{Lo: num(1, 1), Hi: num(1, 1)}) {
		t.Error("Value", got, e)
	}
}

// P15.2: what may not be asked.
func TestValueErrors(t *testing.T) {
	good := func() api.Piece {
		return api.Piece{A: num(1, 0), W: 0, C: []api.Dy{num(1, 0), num(3, 0)}, Err: num(1, -9)}
	}
	bad := []api.Dy{num(2, 0), num(0, 1), long(401, -400), num(1, 131073)}
	for name, change := range map[string]func(p *api.Piece, x *api.Dy, bad api.Dy){
		"x":   func(p *api.Piece, x *api.Dy, bad api.Dy) { *x = bad },
		"A":   func(p *api.Piece, x *api.Dy, bad api.Dy) { p.A = bad },
		"C 0": func(p *api.Piece, x *api.Dy, bad api.Dy) { p.C[0] = bad },
		"C 1": func(p *api.Piece, x *api.Dy, bad api.Dy) { p.C[1] = bad },
		"Err": func(p *api.Piece, x *api.Dy, bad api.Dy) { p.Err = bad },
	} {
		for _, b := range bad {
			p, x := good(), num(1, 0)
			change(&p, &x, b)
			if got, e := cheb.Value(p, x); e != api.ErrArg || !equal(got, api.Iv{}) {
				t.Error("Value", name, b, got, e)
			}
		}
		p, x := good(), num(1, 0)
		change(&p, &x, long(400, -400))
		if got, e := cheb.Value(p, x); e != api.OK {
			t.Error("Value of 400 bits", name, got, e)
		}
	}
	for name, change := range map[string]func(p *api.Piece){
		"W below":    func(p *api.Piece) { p.W = -65 },
		"W above":    func(p *api.Piece) { p.W = 65 },
		"W least":    func(p *api.Piece) { p.W = math.MinInt },
		"W greatest": func(p *api.Piece) { p.W = math.MaxInt },
		"one number": func(p *api.Piece) { p.C = p.C[:1] },
		"no number":  func(p *api.Piece) { p.C = nil },
		"18 numbers": func(p *api.Piece) { p.C = make([]api.Dy, 18) },
		"Err":        func(p *api.Piece) { p.Err = num(-1, -9) },
	} {
		p := good()
		change(&p)
		if got, e := cheb.Value(p, num(1, 0)); e != api.ErrArg || !equal(got, api.Iv{}) {
			t.Error("Value", name, got, e)
		}
	}
	far := good()
	far.A = num(1, 131072)
	if got, e := cheb.Value(far, num(1, 0)); e != api.ErrRange || !equal(got, api.Iv{}) {
		t.Error("Value of a far piece", got, e)
	}
	narrow := good()
	narrow.W = -64
	if got, e := cheb.Value(narrow, num(1, 65530)); e != api.ErrRange || !equal(got, api.Iv{}) {
		t.Error("Value at a far place", got, e)
	}
	p := good()
	p.C = []api.Dy{{}, {}, num(1, 65535)}
	if got, e := cheb.Value(p, num(1, 10)); e != api.ErrRange || !equal(got, api.Iv{}) {
		t.Error("Value of far numbers", got, e)
	}
}

// made are the chapter's words of Make, of what it may be asked.
func made(t *testing.T, f, n int, a api.Dy, w, d int) api.Piece {
	t.Helper()
	do := must(t)
	s := do(fun.Slope(f, n, a, end(a, w), d+1))
	m := do(dyad.Add(a, num(1, w-1)))
	c := calc(t, 96)
	var x []api.Dy
	var y []api.Iv
	for j := 0; j <= d; j++ {
		place := do(dyad.Add(m, do(dyad.Scale(do(cheb.Node(j, d)), w-1))))
		stretch, e := fun.Eval(f, n, place, 64)
		if e != api.OK {
			t.Fatal("Eval", f, n, place, e)
		}
		x, y = append(x, place), append(y, stretch)
	}
	polynomial := func(k, j int) api.Iv {
		node := c.Point(do(cheb.Node(j, d)))
		l := []api.Iv{c.Int(1), node}
		for i := 2; i <= k; i++ {
			l = append(l, c.Sub(c.Mul(c.Scale(node, 1), l[i-1]), l[i-2]))
		}
		return l[k]
	}
	p := api.Piece{A: a, W: w}
	for k := 0; k <= d; k++ {
		sum := c.Int(0)
		for j := range y {
			sum = c.Add(sum, c.Mul(c.Point(c.Mid(y[j])), polynomial(k, j)))
		}
		sum = c.Div(sum, c.Int(d+1))
		if k > 0 {
			sum = c.Scale(sum, 1)
		}
		p.C = append(p.C, c.Mid(sum))
	}
	var off api.Dy
	for j := range x {
		by := c.Sub(y[j], value(t, p, x[j]))
		for _, z := range []api.Dy{by.Lo, by.Hi} {
			z.M.Neg = false
			if dyad.Cmp(z, off) > 0 {
				off = z
			}
		}
	}
	factorial := num(1, 0)
	for i := 2; i <= d+1; i++ {
		factorial = do(dyad.Mul(factorial, dyad.From(i)))
	}
	left := do(dyad.Div(do(dyad.Scale(s, (w-1)*(d+1)+1-d)), factorial, 64, true))
	p.Err = do(dyad.Round(do(dyad.Add(left, do(dyad.Scale(off, 2)))), 64, true))
	if c.Err() != api.OK {
		t.Fatal("Make's words", c.Err())
	}
	return p
}

// P15.3: bit by bit what the chapter's words say.
func TestMake(t *testing.T) {
	for _, c := range []struct {
		f, n int
		a    api.Dy
		w, d int
	}{
		{api.Sin, 0, api.Dy{}, -2, 3}, {api.Sin, 0, num(-1, -1), 0, 4}, {api.Cos, 0, num(-7, 2), 3, 16}, {api.Exp, 0, num(-1, 0), 1, 5}, {api.Exp, 0, num(5, -64), -30, 2}, {api.Ln, 0, num(1, 0), 0, 7}, {api.Ln, 0, num(1, 15), 10, 1},
		{api.Atan, 0, num(-3, 0), 2, 9}, {api.Erf, 0, api.Dy{}, 0, 12}, {api.Erfc, 0, num(1, 1), 0, 6}, {api.Bessel, 0, num(-3, 2), 2, 8}, {api.Bessel, 5, api.Dy{}, 0, 3},
	} {
		want := made(t, c.f, c.n, c.a, c.w, c.d)
		if got, e := cheb.Make(c.f, c.n, c.a, c.w, c.d); e != api.OK || !samePiece(got, want) {
			t.Error("Make", c, got, want, e)
		}
	}
}

// P15.3: what may not be asked, and which error is told first.
func TestMakeErrors(t *testing.T) {
	one := num(1, 0)
	for _, c := range []struct {
		f, n int
		a    api.Dy
		w, d int
		want api.Errno
	}{
		{api.Sin, 0, one, -31, 4, api.ErrArg}, {api.Sin, 0, one, 11, 4, api.ErrArg}, {api.Sin, 0, one, math.MinInt, 4, api.ErrArg}, {api.Sin, 0, one, math.MaxInt, 4, api.ErrArg},
		{api.Sin, 0, one, 0, 0, api.ErrArg}, {api.Sin, 0, one, 0, 17, api.ErrArg}, {api.Sin, 0, one, 0, math.MinInt, api.ErrArg}, {api.Sin, 0, one, 0, math.MaxInt, api.ErrArg},
		{api.Sin, 0, num(2, 0), 0, 4, api.ErrArg}, {api.Sin, 0, num(0, 1), 0, 4, api.ErrArg}, {api.Sin, 0, num(1, -65), 0, 4, api.ErrArg}, {api.Atan, 0, num(1, 16), 0, 4, api.ErrArg},
		{0, 0, one, 0, 4, api.ErrArg}, {11, 0, one, 0, 4, api.ErrArg}, {api.Sin, 1, one, 0, 4, api.ErrArg}, {api.Bessel, 65, one, 0, 4, api.ErrArg}, {api.Gamma, 0, one, 0, 0, api.ErrArg},
		{api.Gamma, 0, one, 0, 4, api.ErrDomain}, {api.Lgamma, 0, one, 0, 4, api.ErrDomain}, {api.Ln, 0, api.Dy{}, 0, 4, api.ErrDomain}, {api.Ln, 0, num(-1, 0), 0, 4, api.ErrDomain},
		{api.Sin, 0, num(1, 11), 0, 4, api.ErrRange}, {api.Sin, 0, num(2047, 0), 0, 4, api.ErrRange}, {api.Erf, 0, num(5, 0), 1, 4, api.ErrRange}, {api.Erf, 0, num(-13, -1), 0, 4, api.ErrRange},
	} {
		if got, e := cheb.Make(c.f, c.n, c.a, c.w, c.d); e != c.want || !samePiece(got, api.Piece{}) {
			t.Error("Make", c, got, e)
		}
		wantUsed := 0
		if c.d >= 0 {
			got, used, e := cheb.Build(c.f, c.n, c.a, c.w, 10, c.d, 9)
			if e != c.want || used != wantUsed || !sameTable(got, api.Table{}) {
				t.Error("Build", c, got, used, e)
			}
		}
	}
	for _, a := range []api.Dy{num(-1, -64), num(1, 15), num(-65535, 0)} {
		if _, e := cheb.Make(api.Atan, 0, a, -30, 2); e != api.OK {
			t.Error("Make", a, e)
		}
	}
}

// built are the chapter's words of Build.
func built(t *testing.T, f, n int, a api.Dy, w, p, d, fuel int) (api.Table, int, api.Errno) {
	t.Helper()
	type stretch struct {
		a api.Dy
		w int
	}
	table := api.Table{Fun: f, Order: n, A: a, W: w, Prec: p, Degree: d}
	used := 0
	for l := []stretch{{a, w}}; len(l) > 0; {
		if used == fuel {
			return api.Table{}, used, api.ErrFuel
		}
		used++
		s := l[0]
		piece, e := cheb.Make(f, n, s.a, s.w, d)
		if e != api.OK {
			return api.Table{}, 0, e
		}
		if dyad.Cmp(piece.Err, num(1, -p-2)) <= 0 {
			l = l[1:]
			table.Pieces = append(table.Pieces, piece)
			if len(table.Pieces) > 32 {
				return api.Table{}, used, api.ErrFuel
			}
			continue
		}
		if s.w == -30 {
			return api.Table{}, used, api.ErrFuel
		}
		l = append([]stretch{{s.a, s.w - 1}, {end(s.a, s.w-1), s.w - 1}}, l[1:]...)
	}
	return table, used, api.OK
}

// P15.4
func TestBuild(t *testing.T) {
	for _, c := range []struct {
		f, n int
		a    api.Dy
		w    int
		p, d int
		fuel int
		want api.Errno
	}{
		{api.Sin, 0, api.Dy{}, -2, 8, 3, 9, api.OK}, {api.Sin, 0, num(-1, 0), 1, 20, 5, 50, api.OK}, {api.Exp, 0, num(-1, 0), 1, 16, 3, 50, api.OK}, {api.Ln, 0, num(1, -2), 0, 12, 4, 50, api.OK},
		{api.Bessel, 1, api.Dy{}, 3, 10, 6, 50, api.OK}, {api.Cos, 0, api.Dy{}, 0, 4, 1, 50, api.OK}, {api.Atan, 0, num(-1, -1), 0, 10, 2, 100, api.OK},
		{api.Sin, 0, num(-1, 0), 1, 20, 5, 3, api.ErrFuel}, {api.Sin, 0, num(-1, 0), 1, 20, 5, 0, api.ErrFuel}, {api.Sin, 0, api.Dy{}, 6, 10, 2, 1000, api.ErrFuel}, {api.Sin, 0, api.Dy{}, -30, 48, 1, 9, api.OK},
		{api.Sin, 0, num(-1, 0), 1, 48, 1, 100, api.ErrFuel}, {api.Exp, 0, num(255, 3), -30, 4, 1, 9, api.ErrFuel}, {api.Ln, 0, num(65535, 0), 10, 14, 1, 99, api.ErrArg}, {api.Ln, 0, num(1, -64), -20, 4, 1, 300, api.ErrFuel},
	} {
		table, used, e := built(t, c.f, c.n, c.a, c.w, c.p, c.d, c.fuel)
		got, gotUsed, gotE := cheb.Build(c.f, c.n, c.a, c.w, c.p, c.d, c.fuel)
		if !sameTable(got, table) || gotUsed != used || gotE != e || e != c.want {
			t.Error("Build", c, len(got.Pieces), gotUsed, gotE, "words", len(table.Pieces), used, e)
		}
		if e == api.OK && !cheb.Right(got) {
			t.Error("Build is not Right", c)
		}
		if e == api.OK && used > 1 {
			if _, again, e := cheb.Build(c.f, c.n, c.a, c.w, c.p, c.d, used-1); e != api.ErrFuel || again != used-1 {
				t.Error("Build with too little fuel", c, again, e)
			}
			if _, again, e := cheb.Build(c.f, c.n, c.a, c.w, c.p, c.d, used); e != api.OK || again != used {
				t.Error("Build with just the fuel", c, again, e)
			}
		}
	}
}

// P15.4: what may not be asked.
func TestBuildErrors(t *testing.T) {
	for _, c := range []struct {
		f, p, d, fuel int
		want          api.Errno
	}{
		{api.Sin, 3, 4, 9, api.ErrArg}, {api.Sin, 49, 4, 9, api.ErrArg}, {api.Sin, math.MinInt, 4, 9, api.ErrArg}, {api.Sin, math.MaxInt, 4, 9, api.ErrArg}, {api.Sin, 10, 4, -1, api.ErrArg}, {api.Sin, 10, 4, math.MinInt, api.ErrArg},
		{0, 10, 4, 0, api.ErrFuel}, {api.Sin, 10, 17, 0, api.ErrFuel}, {0, 10, 4, 1, api.ErrArg}, {api.Sin, 10, 17, 1, api.ErrArg}, {api.Gamma, 10, 4, 9, api.ErrDomain}, {api.Gamma, 3, 4, 0, api.ErrArg},
	} {
		if got, used, e := cheb.Build(c.f, 0, num(1, 0), 0, c.p, c.d, c.fuel); e != c.want || used != 0 || !sameTable(got, api.Table{}) {
			t.Error("Build", c, got, used, e)
		}
	}
	if _, used, e := cheb.Build(api.Sin, 0, num(1, 0), -3, 10, 4, math.MaxInt); e != api.OK || used != 1 {
		t.Error("Build with all fuel", used, e)
	}
}

// table is a right table of three pieces: of two quarters, and a half.
func table() api.Table {
	piece := func(a api.Dy, w int) api.Piece {
		return api.Piece{A: a, W: w, C: []api.Dy{num(1, 0), num(3, 0), num(-1, -5)}, Err: num(1, -20)}
	}
	return api.Table{Fun: api.Cos, A: num(1, 0), W: 0, Prec: 10, Degree: 2, Pieces: []api.Piece{piece(num(1, 0), -2), piece(num(5, -2), -2), piece(num(3, -1), -1)}}
}

// P15.5
func TestRight(t *testing.T) {
	if !cheb.Right(table()) {
		t.Fatal("a table is not right")
	}
	for name, change := range map[string]func(t *api.Table){
		"Fun 0": func(t *api.Table) { t.Fun = 0 }, "Fun 11": func(t *api.Table) { t.Fun = 11 }, "Order": func(t *api.Table) { t.Order = -1 }, "Order 65": func(t *api.Table) { t.Order = 65 },
		"A": func(t *api.Table) { t.A = num(3, 0) }, "A even": func(t *api.Table) { t.A = num(2, 0) }, "A fine": func(t *api.Table) { t.A = num(1, -65); t.Pieces[0].A = t.A },
		"W": func(t *api.Table) { t.W = 1 }, "W -1": func(t *api.Table) { t.W = -1 }, "W least": func(t *api.Table) { t.W = math.MinInt }, "W greatest": func(t *api.Table) { t.W = math.MaxInt },
		"Prec 3": func(t *api.Table) { t.Prec = 3 }, "Prec 49": func(t *api.Table) { t.Prec = 49 }, "Degree": func(t *api.Table) { t.Degree = 1 }, "Degree 3": func(t *api.Table) { t.Degree = 3 },
		"none":  func(t *api.Table) { t.Pieces = nil },
		"short": func(t *api.Table) { t.Pieces = t.Pieces[:2] }, "late": func(t *api.Table) { t.Pieces = t.Pieces[1:] }, "order": func(t *api.Table) { t.Pieces[0], t.Pieces[1] = t.Pieces[1], t.Pieces[0] },
		"piece A": func(t *api.Table) { t.Pieces[1].A = num(11, -3) }, "piece A even": func(t *api.Table) { t.Pieces[1].A = num(10, -3) }, "piece A wild": func(t *api.Table) { t.Pieces[0].A = num(1, 131073) },
		"piece W": func(t *api.Table) { t.Pieces[1].W = -3 }, "piece W far": func(t *api.Table) { t.Pieces[2].W = math.MinInt }, "piece W above": func(t *api.Table) { t.Pieces[2].W = 11 },
		"C few": func(t *api.Table) { t.Pieces[2].C = t.Pieces[2].C[:2] }, "C more": func(t *api.Table) { t.Pieces[2].C = append(t.Pieces[2].C, num(1, 0)) }, "C even": func(t *api.Table) { t.Pieces[2].C[2] = num(2, 0) },
		"C long": func(t *api.Table) { t.Pieces[2].C[0] = long(401, 0) }, "Err even": func(t *api.Table) { t.Pieces[0].Err = num(2, 0) }, "Err long": func(t *api.Table) { t.Pieces[0].Err = long(401, -500) }, "Err below": func(t *api.Table) { t.Pieces[0].Err = num(-1, -90) },
	} {
		changed := table()
		change(&changed)
		if cheb.Right(changed) {
			t.Error("Right", name)
		}
		if got, e := cheb.Eval(changed, num(1, 0)); e != api.ErrArg || !equal(got, api.Iv{}) {
			t.Error("Eval", name, got, e)
		}
	}
	for name, change := range map[string]func(t *api.Table){
		"Order 64": func(t *api.Table) { t.Order = 64 }, "Prec": func(t *api.Table) { t.Prec = 48 }, "Fun": func(t *api.Table) { t.Fun = api.Bessel }, "C": func(t *api.Table) { t.Pieces[2].C[0] = long(400, 131072) }, "Err": func(t *api.Table) { t.Pieces[2].Err = api.Dy{} },
	} {
		changed := table()
		change(&changed)
		if !cheb.Right(changed) {
			t.Error("not Right", name)
		}
	}
	many := table()
	many.W, many.Pieces = 5, nil
	for i := range 32 {
		many.Pieces = append(many.Pieces, api.Piece{A: dyad.From(1 + i), C: make([]api.Dy, 3)})
	}
	if !cheb.Right(many) {
		t.Error("not Right: 32 pieces")
	}
	pieces := func(w, many, numbers int) []api.Piece {
		var l []api.Piece
		for i := range many {
			a, _ := dyad.Make(zint.From(i), w)
			l = append(l, api.Piece{A: a, W: w, C: make([]api.Dy, numbers)})
		}
		return l
	}
	for name, c := range map[string]struct {
		w, degree int
		l         []api.Piece
		want      bool
	}{
		"2^10 wide": {10, 2, pieces(9, 2, 3), true}, "2^11 wide": {11, 2, pieces(10, 2, 3), false}, "degree 0": {0, 0, pieces(0, 1, 1), false}, "degree 1": {0, 1, pieces(0, 1, 2), true},
		"degree 16": {0, 16, pieces(0, 1, 17), true}, "degree 17": {0, 17, pieces(0, 1, 18), false}, "degree -1": {0, -1, pieces(0, 1, 0), false}, "64 pieces": {6, 2, pieces(0, 64, 3), false},
	} {
		if tab := (api.Table{Fun: api.Sin, W: c.w, Prec: 9, Degree: c.degree, Pieces: c.l}); cheb.Right(tab) != c.want {
			t.Error("Right", name)
		}
	}
	narrow := table()
	narrow.W, narrow.Pieces = -30, []api.Piece{{A: num(1, 0), W: -30, C: make([]api.Dy, 3)}}
	if !cheb.Right(narrow) {
		t.Error("not Right: 2^-30 wide")
	}
	narrow.W, narrow.Pieces[0].W = -31, -31
	if cheb.Right(narrow) {
		t.Error("Right: 2^-31 wide")
	}
	narrow.W, narrow.Pieces = 0, nil
	for range 33 {
		narrow.Pieces = append(narrow.Pieces, api.Piece{A: num(1, 0), C: make([]api.Dy, 3)})
	}
	if cheb.Right(narrow) {
		t.Error("Right: 33 pieces")
	}
}

// P15.5
func TestEval(t *testing.T) {
	tab := table()
	for i := range tab.Pieces { // so that each piece's own numbers are seen
		tab.Pieces[i].C[0] = dyad.From(2*i + 1)
	}
	for _, c := range []struct {
		x     api.Dy
		piece int
	}{{num(1, 0), 0}, {num(9, -3), 0}, {num(5, -2), 0}, {num(11, -3), 1}, {num(3, -1), 1}, {num(7, -2), 2}, {num(1, 1), 2}, {long(400, -399), 0}} {
		p := tab.Pieces[c.piece]
		fine := calc(t, 96)
		want := calc(t, tab.Prec+8).Out(fine.Wide(value(t, p, c.x), p.Err))
		if got, e := cheb.Eval(tab, c.x); e != api.OK || !equal(got, want) {
			t.Error("Eval", c, got, want, e)
		}
	}
	above, _ := dyad.Add(num(1, 1), num(1, -300))
	below, _ := dyad.Sub(num(1, 0), num(1, -300))
	for _, c := range []struct {
		x    api.Dy
		want api.Errno
	}{{above, api.ErrDomain}, {below, api.ErrDomain}, {num(-1, 131072), api.ErrDomain}, {num(2, 0), api.ErrArg}, {num(0, 5), api.ErrArg}, {long(401, -400), api.ErrArg}, {long(401, 400), api.ErrArg}} {
		if got, e := cheb.Eval(tab, c.x); e != c.want || !equal(got, api.Iv{}) {
			t.Error("Eval", c, got, e)
		}
	}
	tab.Pieces[0].C[2] = num(1, 65535)
	tab.Pieces[0].C[1] = num(1, 65535)
	if got, e := cheb.Eval(tab, num(1, 0)); e != api.ErrRange || !equal(got, api.Iv{}) {
		t.Error("Eval of far numbers", got, e)
	}
}

// P15.6, and that a table is as narrow as it says.
func TestTables(t *testing.T) {
	r := rand.New(rand.NewPCG(133, 134))
	for _, c := range []struct {
		f, n int
		a    api.Dy
		w    int
		p, d int
	}{
		{api.Sin, 0, api.Dy{}, -2, 8, 3}, {api.Exp, 0, num(-1, 0), 1, 24, 6}, {api.Ln, 0, num(1, -1), 0, 20, 8}, {api.Cos, 0, num(3, 0), 1, 48, 16}, {api.Atan, 0, num(-1, 0), 1, 10, 4}, {api.Erf, 0, api.Dy{}, 0, 24, 12}, {api.Erfc, 0, num(1, 0), 0, 16, 8}, {api.Bessel, 2, num(-1, 1), 2, 30, 12},
	} {
		tab, used, e := cheb.Build(c.f, c.n, c.a, c.w, c.p, c.d, 63)
		if e != api.OK || !cheb.Right(tab) {
			t.Error("Build", c, used, e)
			continue
		}
		for i := range 40 {
			x, _ := dyad.Make(zint.From(r.IntN(1<<40+1)), c.w-40)
			x, _ = dyad.Add(c.a, x)
			if i == 0 {
				x = c.a
			} else if i == 1 {
				x = end(c.a, c.w)
			}
			got, e := cheb.Eval(tab, x)
			truth, e2 := fun.Eval(c.f, c.n, x, 64)
			fine := calc(t, 200)
			if fine.Meet(got, truth); e != api.OK || e2 != api.OK || fine.Err() != api.OK {
				t.Error("nothing in common", c, x, got, truth, e, e2)
			}
			wide := fine.Sub(fine.Point(got.Hi), fine.Point(got.Lo)).Hi
			most := max(sizeOf(got.Lo), sizeOf(got.Hi), 0)
			if dyad.Cmp(wide, dyad.Half(most-c.p)) > 0 {
				t.Error("wide", c, x, got)
			}
		}
	}
	tab, _, _ := cheb.Build(api.Sin, 0, api.Dy{}, -2, 8, 3, 9)
	if got, e := cheb.Eval(tab, num(1, -3)); e != api.OK || dyad.Cmp(got.Lo, num(1, -3)) >= 0 || dyad.Cmp(got.Hi, num(1, -4)) <= 0 {
		t.Error("the example of the whole", got, e)
	}
}

func sizeOf(x api.Dy) int {
	n, _ := dyad.Size(x)
	return n
}

// T5: the error function from 0 to 1, to 24 bits, of degree 12, with a fuel of 40.
func TestErfTable(t *testing.T) {
	tab, used, e := cheb.Build(api.Erf, 0, api.Dy{}, 0, 24, 12, 40)
	if e != api.OK || used > 40 || len(tab.Pieces) == 0 {
		t.Error("Build", len(tab.Pieces), used, e)
	}
}
