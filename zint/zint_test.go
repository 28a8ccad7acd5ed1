package zint_test

import (
	"math"
	"math/big"
	"math/rand/v2"
	"slices"
	"strings"
	"testing"

	"astrolabe/api"
	"astrolabe/zint"
)

func toBig(a api.Int) *big.Int {
	n := new(big.Int)
	for i := len(a.Mag) - 1; i >= 0; i-- {
		n.Lsh(n, 32)
		n.Or(n, big.NewInt(int64(a.Mag[i])))
	}
	if a.Neg {
		n.Neg(n)
	}
	return n
}

func fromBig(n *big.Int) api.Int {
	a := api.Int{Neg: n.Sign() < 0}
	rest := new(big.Int).Abs(n)
	for rest.Sign() > 0 {
		a.Mag = append(a.Mag, uint32(new(big.Int).And(rest, big.NewInt(math.MaxUint32)).Uint64()))
		rest.Rsh(rest, 32)
	}
	return a
}

// random makes a whole number of up to most digits; some have zeros at their end, some a sign without digits.
func random(r *rand.Rand, most int) api.Int {
	a := api.Int{Neg: r.IntN(2) == 0, Mag: make([]uint32, r.IntN(most+1))}
	for i := range a.Mag {
		switch r.IntN(4) {
		case 0:
			a.Mag[i] = math.MaxUint32
		case 1:
			a.Mag[i] = 0
		default:
			a.Mag[i] = r.Uint32() >> r.IntN(32)
		}
	}
	return a
}

func equal(a, b api.Int) bool { return a.Neg == b.Neg && slices.Equal(a.Mag, b.Mag) }

func same(t *testing.T, what string, got api.Int, want *big.Int) {
	t.Helper()
	if !equal(got, fromBig(want)) {
		t.Errorf("%s: %v, want %v", what, got, fromBig(want))
	}
}

// loops calls f with many pairs of numbers, and fails, if f writes into one of them.
func loops(t *testing.T, f func(a, b api.Int, x, y *big.Int)) {
	t.Helper()
	r := rand.New(rand.NewPCG(31, 32))
	for range 5000 {
		a, b := random(r, 6), random(r, 5)
		if r.IntN(10) == 0 {
			b = api.Int{Neg: r.IntN(2) == 0, Mag: slices.Clone(a.Mag)}
		}
		keepA, keepB := slices.Clone(a.Mag), slices.Clone(b.Mag)
		f(a, b, toBig(a), toBig(b))
		if !slices.Equal(a.Mag, keepA) || !slices.Equal(b.Mag, keepB) {
			t.Fatalf("an argument was written into: %v %v", keepA, keepB)
		}
	}
}

// P4.1
func TestRightMakeFromSmall(t *testing.T) {
	for _, c := range []struct {
		a    api.Int
		want bool
	}{
		{api.Int{}, true},
		{api.Int{Mag: []uint32{}}, true},
		{api.Int{Neg: true}, false},
		{api.Int{Mag: []uint32{0}}, false},
		{api.Int{Mag: []uint32{5, 0}}, false},
		{api.Int{Neg: true, Mag: []uint32{0, 1}}, true},
		{api.Int{Mag: []uint32{7}}, true},
	} {
		if zint.Right(c.a) != c.want {
			t.Error("Right", c.a)
		}
	}
	for _, n := range []int{0, 1, -1, math.MaxInt, math.MinInt, math.MinInt + 1, 1 << 32, -1 << 32, math.MaxUint32} {
		same(t, "From", zint.From(n), big.NewInt(int64(n)))
		if got, ok := zint.Small(zint.From(n)); got != n || !ok {
			t.Error("Small of From", n, got, ok)
		}
	}
	loops(t, func(a, _ api.Int, x, _ *big.Int) {
		same(t, "Make", zint.Make(a.Neg, a.Mag), x)
		n, ok := zint.Small(a)
		if ok != x.IsInt64() || ok && int64(n) != x.Int64() || !ok && n != 0 {
			t.Errorf("Small(%v): %d %v", x, n, ok)
		}
	})
	for _, a := range []api.Int{{Mag: []uint32{0, 1 << 31}}, {Neg: true, Mag: []uint32{1, 1 << 31}}, {Mag: []uint32{0, 0, 1}}} {
		if n, ok := zint.Small(a); n != 0 || ok {
			t.Error("Small", a, n, ok)
		}
	}
}

// P4.1
func TestReckoning(t *testing.T) {
	loops(t, func(a, b api.Int, x, y *big.Int) {
		if got := zint.Cmp(a, b); got != x.Cmp(y) {
			t.Errorf("Cmp(%v, %v): %d", x, y, got)
		}
		same(t, "Neg", zint.Neg(a), new(big.Int).Neg(x))
		same(t, "Add", zint.Add(a, b), new(big.Int).Add(x, y))
		same(t, "Sub", zint.Sub(a, b), new(big.Int).Sub(x, y))
		same(t, "Mul", zint.Mul(a, b), new(big.Int).Mul(x, y))
	})
	if zint.Cmp(api.Int{Neg: true}, api.Int{Mag: []uint32{0}}) != 0 {
		t.Error("Cmp: a sign without digits counts")
	}
}

// P4.2
func TestDiv(t *testing.T) {
	for _, c := range []struct{ a, b, q, r int }{
		{-7, 2, -4, 1}, {7, -2, -4, -1}, {-7, -2, 3, -1}, {7, 2, 3, 1}, {-8, 2, -4, 0}, {8, -2, -4, 0}, {0, -5, 0, 0}, {-1, 5, -1, 4}, {1, -5, -1, -4},
	} {
		q, r, ok := zint.Div(zint.From(c.a), zint.From(c.b))
		if !ok || !equal(q, zint.From(c.q)) || !equal(r, zint.From(c.r)) {
			t.Error("Div", c, q, r, ok)
		}
	}
	loops(t, func(a, b api.Int, x, y *big.Int) {
		q, r, ok := zint.Div(a, b)
		if y.Sign() == 0 {
			if ok || !equal(q, api.Int{}) || !equal(r, api.Int{}) {
				t.Errorf("Div(%v, 0): %v %v %v", x, q, r, ok)
			}
			return
		}
		wantQ, wantR := new(big.Int).QuoRem(x, y, new(big.Int))
		if wantR.Sign() != 0 && wantR.Sign() != y.Sign() {
			wantQ.Sub(wantQ, big.NewInt(1))
			wantR.Add(wantR, y)
		}
		if !ok {
			t.Errorf("Div(%v, %v): false", x, y)
		}
		same(t, "the quotient", q, wantQ)
		same(t, "the rest", r, wantR)
	})
}

// P4.2
func TestShift(t *testing.T) {
	loops(t, func(a, _ api.Int, x, _ *big.Int) {
		for _, n := range []int{0, 1, 31, 32, 33, 64, 200} {
			up, okUp := zint.Shift(a, n)
			down, okDown := zint.Shift(a, -n)
			if !okUp || !okDown {
				t.Errorf("Shift(%v, %d): false", x, n)
			}
			same(t, "Shift", up, new(big.Int).Lsh(x, uint(n)))
			same(t, "Shift down", down, new(big.Int).Rsh(x, uint(n))) // of big.Int below 0 too it rounds down
		}
	})
	for _, m := range []int{0, 3, -3} {
		up, ok := zint.Shift(zint.From(m), 100000)
		same(t, "Shift by 100000", up, new(big.Int).Lsh(big.NewInt(int64(m)), 100000))
		down, okDown := zint.Shift(up, -100000)
		same(t, "and back", down, big.NewInt(int64(m)))
		last, okLast := zint.Shift(zint.From(m), -100000)
		same(t, "Shift by -100000", last, new(big.Int).Rsh(big.NewInt(int64(m)), 100000))
		if !ok || !okDown || !okLast {
			t.Error("Shift by 100000", m, ok, okDown, okLast)
		}
	}
	for _, n := range []int{100001, -100001, math.MaxInt, math.MinInt} {
		for _, m := range []int{0, 5, -5} {
			if got, ok := zint.Shift(zint.From(m), n); ok || !equal(got, api.Int{}) {
				t.Error("Shift", m, n, got, ok)
			}
		}
	}
}

// P4.3
func TestBytes(t *testing.T) {
	for _, c := range []struct {
		a    api.Int
		want string
	}{
		{zint.From(-5), "\x00\x03\x05\x00\x00\x00"},
		{zint.From(0), "\x00\x00"},
		{zint.From(1<<32 + 0x01020304), "\x00\x04\x04\x03\x02\x01\x01\x00\x00\x00"},
		{api.Int{Neg: true, Mag: slices.Repeat([]uint32{9}, 200)}, "\x01\x91" + strings.Repeat("\x09\x00\x00\x00", 200)},
	} {
		if got, e := zint.Bytes(c.a); got != c.want || e != api.OK {
			t.Errorf("Bytes(%v): %q %v", c.a, got, e)
		}
	}
	for _, a := range []api.Int{{Neg: true}, {Mag: []uint32{0}}, {Mag: []uint32{1, 0}}, {Mag: slices.Repeat([]uint32{1}, 401)}} {
		if got, e := zint.Bytes(a); got != "" || e != api.ErrArg {
			t.Errorf("Bytes(%v): %q %v", a, got, e)
		}
	}
	most := api.Int{Neg: true, Mag: slices.Repeat([]uint32{1}, 400)}
	got, e := zint.Bytes(most)
	if e != api.OK || len(got) != 1602 || got[:2] != "\x03\x21" {
		t.Errorf("Bytes of 400 digits: %d bytes, %v", len(got), e)
	}
	if back, rest, e := zint.Take(got); !equal(back, most) || rest != "" || e != api.OK {
		t.Error("Take of 400 digits", rest, e)
	}
}

// P4.3
func TestTake(t *testing.T) {
	for _, c := range []struct {
		b    string
		want int
		rest string
	}{
		{"\x00\x03\x05\x00\x00\x00", -5, ""},
		{"\x00\x00", 0, ""},
		{"\x00\x00\x00\x03", 0, "\x00\x03"},
		{"\x00\x02\x00\x01\x00\x00tail", 256, "tail"},
	} {
		if a, rest, e := zint.Take(c.b); !equal(a, zint.From(c.want)) || rest != c.rest || e != api.OK {
			t.Errorf("Take(%q): %v %q %v", c.b, a, rest, e)
		}
	}
	for _, b := range []string{
		"", "\x00", "\x00\x01", "\x00\x01\x00\x00\x00\x00", "\x00\x02", "\x00\x02\x05\x00\x00", "\x00\x02\x00\x00\x00\x00",
		"\x00\x04\x05\x00\x00\x00\x00\x00\x00\x00", "\x00\x05\x05\x00\x00\x00\x01\x00\x00",
		"\x03\x22" + strings.Repeat("\x01", 5000), "\xff\xff" + strings.Repeat("\x01", 200000),
	} {
		if a, rest, e := zint.Take(b); !equal(a, api.Int{}) || rest != "" || e != api.ErrForm {
			t.Errorf("Take(%.20q): %v %.20q %v", b, a, rest, e)
		}
	}
}

// P4.3
func TestText(t *testing.T) {
	for _, n := range []int{0, 7, -120, 999999999, 1000000000, -1000000001, math.MinInt} {
		if got, want := zint.Text(zint.From(n)), big.NewInt(int64(n)).String(); got != want {
			t.Errorf("Text(%d): %s", n, got)
		}
	}
	loops(t, func(a, _ api.Int, x, _ *big.Int) {
		if got := zint.Text(a); got != x.String() {
			t.Errorf("Text(%v): %s", x, got)
		}
	})
	power, _ := zint.Shift(zint.From(1), 20000)
	if got := zint.Text(power); got != toBig(power).String() {
		t.Error("Text(2^20000)", got)
	}
}

// P4.4
func TestLaws(t *testing.T) {
	r := rand.New(rand.NewPCG(33, 34))
	loops(t, func(a, b api.Int, _, _ *big.Int) {
		c := random(r, 4)
		right := zint.Make(a.Neg, a.Mag)
		if !equal(zint.Add(a, b), zint.Add(b, a)) || !equal(zint.Mul(a, b), zint.Mul(b, a)) || !equal(zint.Sub(a, b), zint.Neg(zint.Sub(b, a))) {
			t.Errorf("order: %v %v", a, b)
		}
		if !equal(zint.Add(zint.Add(a, b), c), zint.Add(a, zint.Add(b, c))) || !equal(zint.Mul(zint.Mul(a, b), c), zint.Mul(a, zint.Mul(b, c))) {
			t.Errorf("brackets: %v %v %v", a, b, c)
		}
		if !equal(zint.Mul(zint.Add(a, b), c), zint.Add(zint.Mul(a, c), zint.Mul(b, c))) {
			t.Errorf("a sum's product: %v %v %v", a, b, c)
		}
		if !equal(zint.Sub(zint.Add(a, b), b), right) || !equal(zint.Neg(zint.Neg(a)), right) {
			t.Errorf("there and back: %v %v", a, b)
		}
		if q, rest, ok := zint.Div(a, b); ok && !equal(zint.Add(zint.Mul(q, b), rest), right) {
			t.Errorf("Div %v %v: %v %v", a, b, q, rest)
		}
		text, e := zint.Bytes(right)
		if back, tail, e2 := zint.Take(text + "x"); e != api.OK || e2 != api.OK || tail != "x" || !equal(back, right) {
			t.Errorf("written and read: %v: %v %q %v %v", right, back, tail, e, e2)
		}
	})
}

// P3: Make keeps nothing of what it was handed, and no answer has spare room in what was handed in.
func TestMemory(t *testing.T) {
	list := []uint32{1, 2, 0, 0}
	made := zint.Make(true, list)
	list[0] = 9
	if made.Mag[0] != 1 {
		t.Error("Make keeps its list")
	}
	list[0] = 1
	for _, got := range []api.Int{zint.Neg(api.Int{Mag: list}), zint.Add(api.Int{Mag: list}, api.Int{}), zint.Sub(api.Int{Mag: list}, api.Int{})} {
		_ = append(got.Mag, 77)
	}
	if !slices.Equal(list, []uint32{1, 2, 0, 0}) {
		t.Error("an answer's spare room is the argument's", list)
	}
}
