package dyad_test

import (
	"math"
	"math/big"
	"math/rand/v2"
	"slices"
	"strings"
	"testing"

	"astrolabe/api"
	"astrolabe/dyad"
	"astrolabe/zint"
)

func toBig(a api.Int) *big.Int {
	n := new(big.Int)
	for i := len(a.Mag) - 1; i >= 0; i-- {
		n.Lsh(n, 32)
		n.Or(n, big.NewInt(int64(a.Mag[i])))
	}
	if a.Neg {
		n.Neg(n)
	}
	return n
}

func fromBig(n *big.Int) api.Int {
	a := api.Int{Neg: n.Sign() < 0}
	rest := new(big.Int).Abs(n)
	for rest.Sign() > 0 {
		a.Mag = append(a.Mag, uint32(new(big.Int).And(rest, big.NewInt(math.MaxUint32)).Uint64()))
		rest.Rsh(rest, 32)
	}
	return a
}

// power is 2^e as a fraction.
func power(e int) *big.Rat {
	p := new(big.Int).Lsh(big.NewInt(1), uint(max(e, -e)))
	if e < 0 {
		return new(big.Rat).SetFrac(big.NewInt(1), p)
	}
	return new(big.Rat).SetInt(p)
}

func toRat(x api.Dy) *big.Rat {
	return new(big.Rat).Mul(new(big.Rat).SetInt(toBig(x.M)), power(x.E))
}

// fromRat is the number of a fraction whose denominator is a power of 2.
func fromRat(v *big.Rat) api.Dy {
	m, e := new(big.Int).Set(v.Num()), 1-v.Denom().BitLen()
	for m.Sign() != 0 && m.Bit(0) == 0 {
		m.Rsh(m, 1)
		e++
	}
	if m.Sign() == 0 {
		e = 0
	}
	return api.Dy{M: fromBig(m), E: e}
}

// floor is the greatest whole number not above v.
func floor(v *big.Rat) *big.Int { return new(big.Int).Div(v.Num(), v.Denom()) }

// sizeOf is the s with 2^(s - 1) not above v's size, and 2^s above it.
func sizeOf(v *big.Rat) int {
	a := new(big.Rat).Abs(v)
	s := a.Num().BitLen() - a.Denom().BitLen() - 1
	for a.Cmp(power(s)) >= 0 {
		s++
	}
	return s
}

// rounded is what Round should answer of v.
func rounded(v *big.Rat, p int, up bool) api.Dy {
	if v.Sign() == 0 {
		return api.Dy{}
	}
	unit := power(sizeOf(v) - p)
	parts := new(big.Rat).Quo(v, unit)
	n := floor(parts)
	if up && !parts.IsInt() {
		n.Add(n, big.NewInt(1))
	}
	return fromRat(unit.Mul(unit, new(big.Rat).SetInt(n)))
}

func equal(x, y api.Dy) bool {
	return x.E == y.E && x.M.Neg == y.M.Neg && slices.Equal(x.M.Mag, y.M.Mag)
}

// good fails, if there is an error, or the number is another one.
func good(t *testing.T, what string, x api.Dy, e api.Errno, want api.Dy) {
	t.Helper()
	if e != api.OK || !equal(x, want) {
		t.Errorf("%s: %v %d, want %v", what, x, e, want)
	}
}

// bad fails, if the error is not want, or the number is not 0.
func bad(t *testing.T, what string, x api.Dy, e api.Errno, want api.Errno) {
	t.Helper()
	if e != want || !equal(x, api.Dy{}) {
		t.Errorf("%s: %v %d, want error %d", what, x, e, want)
	}
}

// num is m times 2^e, not looked at.
func num(m, e int) api.Dy { return api.Dy{M: zint.From(m), E: e} }

// random makes a right number with up to most digits.
func random(r *rand.Rand, most int) api.Dy {
	mag := make([]uint32, r.IntN(most+1))
	for i := range mag {
		switch r.IntN(4) {
		case 0:
			mag[i] = math.MaxUint32
		case 1:
			mag[i] = 0
		default:
			mag[i] = r.Uint32() >> r.IntN(32)
		}
	}
	x, _ := dyad.Make(zint.Make(r.IntN(2) == 0, mag), r.IntN(300)-200)
	return x
}

// wrong are numbers that are not right.
func wrong() []api.Dy {
	return []api.Dy{
		num(2, 0), num(0, 1), num(1, 131073), num(1, -131073), num(1, math.MaxInt), num(1, math.MinInt), num(-6, 3),
		{M: api.Int{Neg: true}}, {M: api.Int{Mag: []uint32{0}}}, {M: api.Int{Mag: []uint32{1, 0}}}, {M: api.Int{Mag: []uint32{0, 1}}},
	}
}

// P5.1
func TestRight(t *testing.T) {
	for _, x := range []api.Dy{{}, num(1, 0), num(-1, 131072), num(7, -131072), {M: api.Int{Mag: []uint32{}}}, {M: api.Int{Neg: true, Mag: []uint32{1, 2}}, E: 5}} {
		if !dyad.Right(x) {
			t.Error("not Right", x)
		}
	}
	for _, x := range wrong() {
		if dyad.Right(x) {
			t.Error("Right", x)
		}
	}
}

// P5.1
func TestMakeFromHalf(t *testing.T) {
	for _, c := range []struct {
		m    api.Int
		e    int
		want api.Dy
		ok   bool
	}{
		{zint.From(12), -5, num(3, -3), true},
		{zint.From(-1), 65535, num(-1, 65535), true},
		{zint.From(1), 65536, api.Dy{}, false},
		{zint.From(3), 65534, num(3, 65534), true},
		{zint.From(3), 65535, api.Dy{}, false},
		{zint.From(1), -65537, num(1, -65537), true},
		{zint.From(1), -65538, api.Dy{}, false},
		{zint.From(8), -65540, num(1, -65537), true},
		{zint.From(0), 100000, api.Dy{}, true},
		{zint.From(0), -100000, api.Dy{}, true},
		{zint.From(0), 100001, api.Dy{}, false},
		{zint.From(0), math.MinInt, api.Dy{}, false},
		{zint.From(5), math.MaxInt, api.Dy{}, false},
		{zint.From(5), -100001, api.Dy{}, false},
		{api.Int{Neg: true, Mag: []uint32{0, 0}}, 9, api.Dy{}, true},
		{api.Int{Mag: []uint32{0, 6, 0}}, 0, num(3, 33), true},
	} {
		if x, ok := dyad.Make(c.m, c.e); ok != c.ok || !equal(x, c.want) {
			t.Error("Make", c.m, c.e, x, ok)
		}
	}
	long := api.Int{Mag: append(make([]uint32, 5000), 1)} // 2^160000
	if x, ok := dyad.Make(long, -100000); !ok || !equal(x, num(1, 60000)) {
		t.Error("Make of 2^160000", ok, x)
	}
	if x, ok := dyad.Make(long, -90000); ok || !equal(x, api.Dy{}) {
		t.Error("Make of 2^70000", ok, x)
	}
	for _, n := range []int{0, 1, -1, 12, -40, math.MaxInt, math.MinInt} {
		good(t, "From", dyad.From(n), api.OK, fromRat(new(big.Rat).SetInt64(int64(n))))
	}
	for _, e := range []int{0, 1, -1, 65535, -65537} {
		good(t, "Half", dyad.Half(e), api.OK, num(1, e))
	}
	for _, e := range []int{65536, -65538, 131072, math.MaxInt, math.MinInt} {
		good(t, "Half", dyad.Half(e), api.OK, api.Dy{})
	}
}

// P5.1
func TestSizeCmpNeg(t *testing.T) {
	for _, c := range []struct {
		x    api.Dy
		want int
		ok   bool
	}{{num(1, 0), 1, true}, {num(-5, -3), 0, true}, {num(7, 131072), 131075, true}, {num(1, -131072), -131071, true}, {api.Dy{}, 0, false}} {
		if n, ok := dyad.Size(c.x); n != c.want || ok != c.ok {
			t.Error("Size", c.x, n, ok)
		}
	}
	for _, x := range wrong() {
		if n, ok := dyad.Size(x); n != 0 || ok {
			t.Error("Size of what is not right", x, n, ok)
		}
		if dyad.Cmp(x, num(1, 0)) != 0 || dyad.Cmp(num(-1, 0), x) != 0 || dyad.Cmp(x, x) != 0 {
			t.Error("Cmp of what is not right", x)
		}
		if got := dyad.Neg(x); !equal(got, api.Dy{}) {
			t.Error("Neg of what is not right", x, got)
		}
	}
	r := rand.New(rand.NewPCG(41, 42))
	for range 4000 {
		x, y := random(r, 4), random(r, 4)
		if r.IntN(4) == 0 {
			y, _ = dyad.Add(x, num(1, r.IntN(100)-300))
		}
		if got := dyad.Cmp(x, y); got != toRat(x).Cmp(toRat(y)) || dyad.Cmp(x, x) != 0 {
			t.Errorf("Cmp(%v, %v): %d", x, y, got)
		}
		good(t, "Neg", dyad.Neg(x), api.OK, fromRat(new(big.Rat).Neg(toRat(x))))
	}
	for _, c := range [][2]api.Dy{{num(1, -131072), num(1, 131072)}, {num(-1, 131072), num(-1, -131072)}, {num(-1, 131072), num(1, -131072)}, {api.Dy{}, num(1, -131072)}, {num(-1, -131072), api.Dy{}}} {
		if dyad.Cmp(c[0], c[1]) != -1 || dyad.Cmp(c[1], c[0]) != 1 {
			t.Error("Cmp", c)
		}
	}
	good(t, "Neg beyond the range", dyad.Neg(num(1, 131072)), api.OK, num(-1, 131072))
}

// P5.2
func TestAddSubMulScale(t *testing.T) {
	r := rand.New(rand.NewPCG(43, 44))
	for range 5000 {
		x, y := random(r, 5), random(r, 5)
		if r.IntN(5) == 0 {
			y = dyad.Neg(x)
		}
		n := r.IntN(400) - 200
		keepX, keepY := slices.Clone(x.M.Mag), slices.Clone(y.M.Mag)
		v, w := toRat(x), toRat(y)
		sum, e := dyad.Add(x, y)
		good(t, "Add", sum, e, fromRat(new(big.Rat).Add(v, w)))
		rest, e := dyad.Sub(x, y)
		good(t, "Sub", rest, e, fromRat(new(big.Rat).Sub(v, w)))
		product, e := dyad.Mul(x, y)
		good(t, "Mul", product, e, fromRat(new(big.Rat).Mul(v, w)))
		scaled, e := dyad.Scale(x, n)
		good(t, "Scale", scaled, e, fromRat(new(big.Rat).Mul(v, power(n))))
		if !slices.Equal(x.M.Mag, keepX) || !slices.Equal(y.M.Mag, keepY) {
			t.Fatal("an argument was written into")
		}
	}
}

// P5.2, where the answer is at the range's edges, or beyond.
func TestRange(t *testing.T) {
	top, least := num(1, 65535), num(1, -65537)
	x, e := dyad.Add(top, top)
	bad(t, "Add above", x, e, api.ErrRange)
	x, e = dyad.Add(num(3, 65534), num(-1, 65535))
	good(t, "Add within", x, e, num(1, 65534))
	x, e = dyad.Sub(num(3, -65537), num(1, -65536))
	good(t, "Sub within", x, e, least)
	x, e = dyad.Sub(num(5, -65539), num(1, -65537))
	bad(t, "Sub below", x, e, api.ErrRange)
	x, e = dyad.Add(num(1, 131072), num(1, -131072))
	bad(t, "Add far apart", x, e, api.ErrRange)
	x, e = dyad.Sub(num(1, 131072), num(1, 131072))
	good(t, "Sub beyond the range to 0", x, e, api.Dy{})
	x, e = dyad.Add(api.Dy{}, num(1, 131072))
	bad(t, "Add of 0 beyond the range", x, e, api.ErrRange)
	x, e = dyad.Add(num(1, 131072), api.Dy{})
	bad(t, "Add of 0 beyond the range", x, e, api.ErrRange)
	x, e = dyad.Add(num(1, 60000), num(1, -60000))
	good(t, "Add of a long M", x, e, api.Dy{M: fromBig(new(big.Int).Add(new(big.Int).Lsh(big.NewInt(1), 120000), big.NewInt(1))), E: -60000})
	x, e = dyad.Mul(num(1, 131072), num(3, -131072))
	good(t, "Mul into the range", x, e, num(3, 0))
	x, e = dyad.Mul(num(1, 40000), num(1, 40000))
	bad(t, "Mul above", x, e, api.ErrRange)
	x, e = dyad.Mul(num(1, -40000), num(1, -40000))
	bad(t, "Mul below", x, e, api.ErrRange)
	x, e = dyad.Mul(num(1, -131072), num(1, -131072))
	bad(t, "Mul far below", x, e, api.ErrRange)
	x, e = dyad.Mul(num(1, 131072), api.Dy{})
	good(t, "Mul by 0", x, e, api.Dy{})
	x, e = dyad.Scale(num(1, 0), 65535)
	good(t, "Scale", x, e, top)
	x, e = dyad.Scale(num(1, 0), 65536)
	bad(t, "Scale", x, e, api.ErrRange)
	x, e = dyad.Scale(num(1, 131072), -100000)
	good(t, "Scale into the range", x, e, num(1, 31072))
	for _, n := range []int{100001, -100001, math.MaxInt, math.MinInt} {
		for _, y := range []api.Dy{{}, num(1, 0), num(1, -n)} {
			x, e = dyad.Scale(y, n)
			if dyad.Right(y) {
				bad(t, "Scale too far", x, e, api.ErrRange)
			}
		}
	}
	x, e = dyad.Scale(api.Dy{}, 100000)
	good(t, "Scale of 0", x, e, api.Dy{})
}

// P5.2 to P5.4: a number that is not right is told first.
func TestNotRight(t *testing.T) {
	one := num(1, 0)
	for _, w := range wrong() {
		for _, pair := range [][2]api.Dy{{w, one}, {one, w}, {w, w}, {w, api.Dy{}}} {
			x, e := dyad.Add(pair[0], pair[1])
			bad(t, "Add", x, e, api.ErrArg)
			x, e = dyad.Sub(pair[0], pair[1])
			bad(t, "Sub", x, e, api.ErrArg)
			x, e = dyad.Mul(pair[0], pair[1])
			bad(t, "Mul", x, e, api.ErrArg)
			x, e = dyad.Div(pair[0], pair[1], 10, true)
			bad(t, "Div", x, e, api.ErrArg)
		}
		x, e := dyad.Scale(w, 200000)
		bad(t, "Scale", x, e, api.ErrArg)
		x, e = dyad.Round(w, 5, false)
		bad(t, "Round", x, e, api.ErrArg)
		x, e = dyad.Sqrt(w, 5, false)
		bad(t, "Sqrt", x, e, api.ErrArg)
		if a, e := dyad.Floor(w); e != api.ErrArg || len(a.Mag) != 0 {
			t.Error("Floor", w, a, e)
		}
		if b, e := dyad.Bytes(w); e != api.ErrArg || b != "" {
			t.Error("Bytes", w, b, e)
		}
	}
}

// P5.3
func TestRound(t *testing.T) {
	down, e := dyad.Round(num(13, 0), 3, false)
	good(t, "Round(13, 3) down", down, e, num(3, 2))
	up, e := dyad.Round(num(13, 0), 3, true)
	good(t, "Round(13, 3) up", up, e, num(7, 1))
	r := rand.New(rand.NewPCG(45, 46))
	for range 5000 {
		x, p := random(r, 5), 2+r.IntN(90)
		keep := slices.Clone(x.M.Mag)
		for _, up := range []bool{false, true} {
			got, e := dyad.Round(x, p, up)
			good(t, "Round", got, e, rounded(toRat(x), p, up))
		}
		if !slices.Equal(x.M.Mag, keep) {
			t.Fatal("the argument was written into")
		}
	}
	for _, p := range []int{1, 0, -1, 401, math.MaxInt, math.MinInt} {
		for _, x := range []api.Dy{{}, num(1, 0), num(-13, 0), num(1, 131072)} {
			got, e := dyad.Round(x, p, true)
			bad(t, "Round of precision", got, e, api.ErrArg)
			got, e = dyad.Div(x, api.Dy{}, p, true)
			bad(t, "Div of precision", got, e, api.ErrArg)
			got, e = dyad.Sqrt(x, p, true)
			bad(t, "Sqrt of precision", got, e, api.ErrArg)
		}
	}
	for _, p := range []int{2, 400} {
		got, e := dyad.Round(num(1, 7), p, false)
		good(t, "Round", got, e, num(1, 7))
	}
	got, e := dyad.Round(num(1, 131072), 5, false)
	bad(t, "Round beyond the range", got, e, api.ErrRange)
	got, e = dyad.Round(num(7, 65533), 2, true)
	bad(t, "Round up out of the range", got, e, api.ErrRange)
	got, e = dyad.Round(num(7, 65533), 2, false)
	good(t, "Round down within the range", got, e, num(3, 65534))
	got, e = dyad.Round(num(7, -65540), 2, true)
	good(t, "Round up into the range", got, e, num(1, -65537))
	got, e = dyad.Round(num(7, -65540), 2, false)
	bad(t, "Round down below the range", got, e, api.ErrRange)
}

// P5.3
func TestDiv(t *testing.T) {
	got, e := dyad.Div(num(1, 0), num(3, 0), 4, false)
	good(t, "Div(1, 3, 4)", got, e, num(5, -4))
	r := rand.New(rand.NewPCG(47, 48))
	for range 5000 {
		x, y, p := random(r, 5), random(r, 4), 2+r.IntN(150)
		if r.IntN(3) == 0 {
			x, _ = dyad.Mul(x, y)
		}
		keepX, keepY := slices.Clone(x.M.Mag), slices.Clone(y.M.Mag)
		for _, up := range []bool{false, true} {
			got, e := dyad.Div(x, y, p, up)
			if len(y.M.Mag) == 0 {
				bad(t, "Div by 0", got, e, api.ErrDomain)
				continue
			}
			good(t, "Div", got, e, rounded(new(big.Rat).Quo(toRat(x), toRat(y)), p, up))
		}
		if !slices.Equal(x.M.Mag, keepX) || !slices.Equal(y.M.Mag, keepY) {
			t.Fatal("an argument was written into")
		}
	}
	got, e = dyad.Div(num(1, 40000), num(1, -40000), 9, false)
	bad(t, "Div above", got, e, api.ErrRange)
	got, e = dyad.Div(num(1, -40000), num(1, 40000), 9, true)
	bad(t, "Div below", got, e, api.ErrRange)
	got, e = dyad.Div(num(9, 131072), num(3, 131072), 9, true)
	good(t, "Div into the range", got, e, num(3, 0))
	got, e = dyad.Div(num(1, 131072), api.Dy{}, 9, true)
	bad(t, "Div by 0", got, e, api.ErrDomain)
	got, e = dyad.Div(api.Dy{}, num(1, 131072), 400, true)
	good(t, "Div of 0", got, e, api.Dy{})
}

// P5.3
func TestSqrt(t *testing.T) {
	root := func(x api.Dy, p int, up bool) api.Dy {
		v := toRat(x)
		if v.Sign() == 0 {
			return api.Dy{}
		}
		s := sizeOf(v)
		unit := (s+1)>>1 - p // the root's size is half of s, rounded up
		parts := new(big.Rat).Mul(v, power(-2*unit))
		n := new(big.Int).Sqrt(floor(parts))
		if up && new(big.Rat).SetInt(new(big.Int).Mul(n, n)).Cmp(parts) < 0 {
			n.Add(n, big.NewInt(1))
		}
		return fromRat(new(big.Rat).Mul(new(big.Rat).SetInt(n), power(unit)))
	}
	r := rand.New(rand.NewPCG(49, 50))
	for range 5000 {
		x, p := random(r, 5), 2+r.IntN(150)
		x.M.Neg = false
		if r.IntN(3) == 0 {
			x, _ = dyad.Mul(x, x)
		}
		keep := slices.Clone(x.M.Mag)
		for _, up := range []bool{false, true} {
			got, e := dyad.Sqrt(x, p, up)
			good(t, "Sqrt", got, e, root(x, p, up))
		}
		if !slices.Equal(x.M.Mag, keep) {
			t.Fatal("the argument was written into")
		}
	}
	got, e := dyad.Sqrt(num(-1, 0), 9, true)
	bad(t, "Sqrt(-1)", got, e, api.ErrDomain)
	got, e = dyad.Sqrt(num(-1, 131072), 9, true)
	bad(t, "Sqrt far below 0", got, e, api.ErrDomain)
	got, e = dyad.Sqrt(num(1, 131072), 9, true)
	bad(t, "Sqrt(2^131072)", got, e, api.ErrRange)
	got, e = dyad.Sqrt(num(1, 131070), 9, true)
	good(t, "Sqrt(2^131070)", got, e, num(1, 65535))
	got, e = dyad.Sqrt(num(1, -131072), 9, true)
	good(t, "Sqrt(2^-131072)", got, e, num(1, -65536))
}

// P5.4
func TestFloor(t *testing.T) {
	r := rand.New(rand.NewPCG(51, 52))
	for range 3000 {
		x := random(r, 8)
		a, e := dyad.Floor(x)
		if want := fromBig(floor(toRat(x))); e != api.OK || a.Neg != want.Neg || !slices.Equal(a.Mag, want.Mag) {
			t.Errorf("Floor(%v): %v %d", x, a, e)
		}
	}
	for _, c := range []struct {
		x    api.Dy
		want int
	}{{num(-1, -65537), -1}, {num(1, -65537), 0}, {num(-7, -1), -4}, {num(7, -1), 3}, {api.Dy{}, 0}, {num(3, 2), 12}} {
		if a, e := dyad.Floor(c.x); e != api.OK || zint.Cmp(a, zint.From(c.want)) != 0 || !zint.Right(a) {
			t.Error("Floor", c.x, a, e)
		}
	}
	long := new(big.Int).Sub(new(big.Int).Lsh(big.NewInt(1), 131000), big.NewInt(1))
	for _, neg := range []bool{false, true} {
		m := new(big.Int).Set(long)
		if neg {
			m.Neg(m)
		}
		a, e := dyad.Floor(api.Dy{M: fromBig(m), E: -131072})
		want := zint.From(0)
		if neg {
			want = zint.From(-1)
		}
		if e != api.OK || zint.Cmp(a, want) != 0 {
			t.Error("Floor of a long M", neg, a, e)
		}
	}
	wide := new(big.Int).Lsh(long, 60000)
	wide.Add(wide, big.NewInt(1))
	a, e := dyad.Floor(api.Dy{M: fromBig(wide), E: -131072})
	if want := fromBig(new(big.Int).Rsh(wide, 131072)); e != api.OK || !slices.Equal(a.Mag, want.Mag) {
		t.Error("Floor of a longer M", e)
	}
	for _, x := range []api.Dy{num(1, 65536), num(1, 131072), num(-1, -65538)} {
		if a, e := dyad.Floor(x); e != api.ErrRange || len(a.Mag) != 0 {
			t.Error("Floor beyond the range", x, a, e)
		}
	}
}

// P5.4
func TestBytes(t *testing.T) {
	if b, e := dyad.Bytes(num(-5, 3)); b != "\x00\x03\x05\x00\x00\x00\x00\x02\x03\x00\x00\x00" || e != api.OK {
		t.Errorf("Bytes(-40): %q %d", b, e)
	}
	if b, e := dyad.Bytes(api.Dy{}); b != "\x00\x00\x00\x00" || e != api.OK {
		t.Errorf("Bytes(0): %q %d", b, e)
	}
	for _, x := range []api.Dy{num(1, 65536), num(1, -65538), {M: api.Int{Mag: slices.Repeat([]uint32{1}, 401)}, E: 131072}} {
		if b, e := dyad.Bytes(x); b != "" || e != api.ErrRange {
			t.Errorf("Bytes beyond the range: %q %d", b, e)
		}
	}
	if b, e := dyad.Bytes(api.Dy{M: api.Int{Mag: slices.Repeat([]uint32{1}, 401)}}); b != "" || e != api.ErrArg {
		t.Errorf("Bytes of 401 digits: %q %d", b, e)
	}
	if b, e := dyad.Bytes(api.Dy{M: api.Int{Mag: slices.Repeat([]uint32{1}, 400)}}); len(b) != 1604 || e != api.OK {
		t.Errorf("Bytes of 400 digits: %q %d", b, e)
	}
}

// P5.4
func TestTake(t *testing.T) {
	write := func(m, e int) string {
		a, _ := zint.Bytes(zint.From(m))
		b, _ := zint.Bytes(zint.From(e))
		return a + b
	}
	for _, x := range []api.Dy{{}, num(1, 65535), num(-3, -65537), num(1, -65537)} {
		b, _ := dyad.Bytes(x)
		got, rest, e := dyad.Take(b + "\x00\x00")
		good(t, "Take", got, e, x)
		if rest != "\x00\x00" {
			t.Errorf("Take leaves %q", rest)
		}
	}
	huge, _ := zint.Bytes(api.Int{Mag: []uint32{0, 0, 1}})
	for _, b := range []string{
		"", "\x00", write(1, 0)[:6], write(1, 1)[:11], write(2, 0), write(0, 1), write(1, 65536), write(1, -65538), write(1, 131073), write(1, math.MaxInt),
		write(1, 0)[:6] + huge, "\x00\x01\x00\x00", write(5, 0)[:6] + "\x00\x01", strings.Repeat("\xff", 4000),
	} {
		got, rest, e := dyad.Take(b)
		bad(t, "Take", got, e, api.ErrForm)
		if rest != "" {
			t.Errorf("Take leaves %q beside an error", rest)
		}
	}
}

// P5.5
func TestLaws(t *testing.T) {
	r := rand.New(rand.NewPCG(53, 54))
	do := func(f func(x, y api.Dy) (api.Dy, api.Errno), x, y api.Dy) api.Dy {
		t.Helper()
		z, e := f(x, y)
		if e != api.OK {
			t.Error("an error within the range", x, y, e)
		}
		return z
	}
	for range 2000 {
		x, y, z, p := random(r, 4), random(r, 4), random(r, 4), 2+r.IntN(100)
		down, _ := dyad.Round(x, p, false)
		up, _ := dyad.Round(x, p, true)
		if dyad.Cmp(down, x) > 0 || dyad.Cmp(x, up) > 0 || equal(down, up) != equal(down, x) || equal(down, up) != equal(up, x) {
			t.Error("Round", x, p, down, up)
		}
		if !equal(do(dyad.Add, x, y), do(dyad.Add, y, x)) || !equal(do(dyad.Mul, x, y), do(dyad.Mul, y, x)) {
			t.Error("order", x, y)
		}
		if !equal(do(dyad.Mul, do(dyad.Add, x, y), z), do(dyad.Add, do(dyad.Mul, x, z), do(dyad.Mul, y, z))) {
			t.Error("a sum's product", x, y, z)
		}
		if !equal(do(dyad.Sub, do(dyad.Add, x, y), y), x) || !equal(dyad.Neg(dyad.Neg(x)), x) {
			t.Error("there and back", x, y)
		}
		b, _ := dyad.Bytes(x)
		if back, rest, e := dyad.Take(b); e != api.OK || rest != "" || !equal(back, x) {
			t.Error("written and read", x, back, e)
		}
	}
}

// P3: what is answered has no spare room in what was handed in.
func TestSpareRoom(t *testing.T) {
	x := api.Dy{M: api.Int{Mag: []uint32{3, 5, 88, 88}[:2]}, E: 4}
	var zero api.Dy
	sum, _ := dyad.Add(x, zero)
	other, _ := dyad.Add(zero, x)
	rest, _ := dyad.Sub(x, zero)
	scaled, _ := dyad.Scale(x, 3)
	down, _ := dyad.Round(x, 100, false)
	made, _ := dyad.Make(x.M, 0)
	for i, y := range []api.Dy{sum, other, rest, scaled, down, made, dyad.Neg(x)} {
		_ = append(y.M.Mag, 77)
		if !slices.Equal(x.M.Mag[:4], []uint32{3, 5, 88, 88}) {
			t.Fatal("spare room is shared", i)
		}
	}
	made.M.Mag[0] = 9
	if x.M.Mag[0] != 3 {
		t.Error("Make keeps its list")
	}
}
