package nat_test

import (
	"math"
	"math/big"
	"math/rand/v2"
	"slices"
	"testing"

	"astrolabe/nat"
)

// toBig is the number of a list of digits, short or not.
func toBig(a []uint32) *big.Int {
	n := new(big.Int)
	for i := len(a) - 1; i >= 0; i-- {
		n.Lsh(n, 32)
		n.Or(n, big.NewInt(int64(a[i])))
	}
	return n
}

// fromBig is the short list of n.
func fromBig(n *big.Int) []uint32 {
	var a []uint32
	rest := new(big.Int).Set(n)
	for rest.Sign() > 0 {
		a = append(a, uint32(new(big.Int).And(rest, big.NewInt(math.MaxUint32)).Uint64()))
		rest.Rsh(rest, 32)
	}
	return a
}

// digits makes a list of up to most digits, many of them 0 or all ones, often with zeros at its end.
func digits(r *rand.Rand, most int) []uint32 {
	a := make([]uint32, r.IntN(most+1))
	for i := range a {
		switch r.IntN(4) {
		case 0:
			a[i] = math.MaxUint32
		case 1:
			a[i] = 0
		default:
			a[i] = r.Uint32()
		}
	}
	if r.IntN(3) == 0 {
		a = append(a, make([]uint32, r.IntN(3))...)
	}
	return a
}

// same fails, if got is not short, or not the number want.
func same(t *testing.T, what string, got []uint32, want *big.Int) {
	t.Helper()
	if !slices.Equal(got, fromBig(want)) {
		t.Errorf("%s: %v, want %v", what, got, fromBig(want))
	}
}

// loops calls f on many pairs of lists, and fails, if f writes into one of them.
func loops(t *testing.T, f func(a, b []uint32)) {
	t.Helper()
	r := rand.New(rand.NewPCG(1, 2))
	for range 3000 {
		a, b := digits(r, 9), digits(r, 9)
		if r.IntN(8) == 0 {
			b = slices.Clone(a)
		}
		keepA, keepB := slices.Clone(a), slices.Clone(b)
		f(a, b)
		if !slices.Equal(a, keepA) || !slices.Equal(b, keepB) {
			t.Fatalf("an argument was written into: %v %v", keepA, keepB)
		}
	}
}

// P1.1
func TestTrimFromSmallCmp(t *testing.T) {
	loops(t, func(a, b []uint32) {
		x, y := toBig(a), toBig(b)
		same(t, "Trim", nat.Trim(a), x)
		n, ok := nat.Small(a)
		if ok != x.IsUint64() || ok && n != x.Uint64() || !ok && n != 0 {
			t.Errorf("Small(%v): %d %v", a, n, ok)
		}
		if got := nat.Cmp(a, b); got != x.Cmp(y) {
			t.Errorf("Cmp(%v, %v): %d", a, b, got)
		}
	})
	for _, n := range []uint64{0, 1, math.MaxUint32, 1 << 32, math.MaxUint64} {
		same(t, "From", nat.From(n), new(big.Int).SetUint64(n))
		if got, ok := nat.Small(nat.From(n)); got != n || !ok {
			t.Error("Small of From", n, got, ok)
		}
	}
	if n, ok := nat.Small([]uint32{0, 0, 1}); n != 0 || ok {
		t.Error("Small(2^64)", n, ok)
	}
	if n, ok := nat.Small([]uint32{math.MaxUint32, math.MaxUint32, 0, 0}); n != math.MaxUint64 || !ok {
		t.Error("Small(2^64 - 1)", n, ok)
	}
	if nat.Cmp([]uint32{1, 0}, []uint32{1}) != 0 || nat.Cmp(nil, []uint32{0, 0}) != 0 {
		t.Error("Cmp of lists that are not short")
	}
}

// P1.2
func TestAddSubMul(t *testing.T) {
	same(t, "the example", nat.Add([]uint32{math.MaxUint32}, []uint32{1}), big.NewInt(1<<32))
	loops(t, func(a, b []uint32) {
		x, y := toBig(a), toBig(b)
		same(t, "Add", nat.Add(a, b), new(big.Int).Add(x, y))
		same(t, "Mul", nat.Mul(a, b), new(big.Int).Mul(x, y))
		d, ok := nat.Sub(a, b)
		if ok != (x.Cmp(y) >= 0) {
			t.Errorf("Sub(%v, %v): %v", a, b, ok)
		}
		if !ok && len(d) != 0 {
			t.Errorf("Sub(%v, %v): %v beside false", a, b, d)
		}
		if ok {
			same(t, "Sub", d, new(big.Int).Sub(x, y))
		}
	})
}

// P1.3
func TestBitsAndShifts(t *testing.T) {
	loops(t, func(a, _ []uint32) {
		x := toBig(a)
		if nat.Bits(a) != x.BitLen() {
			t.Errorf("Bits(%v): %d", a, nat.Bits(a))
		}
		for i := range 32*len(a) + 40 {
			if nat.Bit(a, i) != (x.Bit(i) == 1) {
				t.Errorf("Bit(%v, %d)", a, i)
			}
		}
		for _, n := range []int{0, 1, 31, 32, 33, 63, 64, 100, 1000} {
			up, ok := nat.Shl(a, n)
			if !ok {
				t.Errorf("Shl(%v, %d)", a, n)
			}
			same(t, "Shl", up, new(big.Int).Lsh(x, uint(n)))
			same(t, "Shr", nat.Shr(a, n), new(big.Int).Rsh(x, uint(n)))
		}
		same(t, "Shr by -1", nat.Shr(a, -1), x)
		same(t, "Shr by the least", nat.Shr(a, math.MinInt), x)
		same(t, "Shr by the greatest", nat.Shr(a, math.MaxInt), new(big.Int))
	})
	for _, i := range []int{-1, math.MinInt, math.MaxInt, 64} {
		if nat.Bit([]uint32{math.MaxUint32, math.MaxUint32}, i) {
			t.Error("Bit", i)
		}
	}
	for _, n := range []int{-1, 100001, math.MinInt, math.MaxInt} {
		for _, a := range [][]uint32{nil, {0}, {7}} {
			if got, ok := nat.Shl(a, n); ok || len(got) != 0 {
				t.Error("Shl", a, n, got, ok)
			}
		}
	}
	far, ok := nat.Shl([]uint32{3}, 100000)
	same(t, "Shl by 100000", far, new(big.Int).Lsh(big.NewInt(3), 100000))
	zero, okZero := nat.Shl([]uint32{0, 0}, 100000)
	if !ok || !okZero || len(zero) != 0 {
		t.Error("Shl by 100000", ok, okZero, zero)
	}
}

// P1.4
func TestLaws(t *testing.T) {
	r := rand.New(rand.NewPCG(3, 4))
	loops(t, func(a, b []uint32) {
		c := digits(r, 5)
		sum := nat.Add(a, b)
		if !slices.Equal(sum, nat.Add(b, a)) || !slices.Equal(nat.Mul(a, b), nat.Mul(b, a)) {
			t.Errorf("order: %v %v", a, b)
		}
		if !slices.Equal(nat.Add(sum, c), nat.Add(a, nat.Add(b, c))) || !slices.Equal(nat.Mul(nat.Mul(a, b), c), nat.Mul(a, nat.Mul(b, c))) {
			t.Errorf("brackets: %v %v %v", a, b, c)
		}
		if d, ok := nat.Sub(sum, b); !ok || !slices.Equal(d, nat.Trim(a)) {
			t.Errorf("a part: %v %v: %v", a, b, d)
		}
		if !slices.Equal(nat.Mul(sum, c), nat.Add(nat.Mul(a, c), nat.Mul(b, c))) {
			t.Errorf("a sum's product: %v %v %v", a, b, c)
		}
		n := r.IntN(200)
		if up, ok := nat.Shl(a, n); !ok || !slices.Equal(nat.Shr(up, n), nat.Trim(a)) {
			t.Errorf("there and back: %v by %d", a, n)
		}
	})
}

// fill writes ones all over l and its spare room.
func fill(l []uint32) {
	l = l[:cap(l)]
	for i := range l {
		l[i] = math.MaxUint32
	}
}

// P3: an answer shares no memory with what was handed in, nor with another answer.
func TestNewMemory(t *testing.T) {
	a, zero := []uint32{1, 2, 3, 0, 0}, []uint32{0}
	for name, call := range map[string]func() []uint32{
		"Trim": func() []uint32 { return nat.Trim(a) },
		"Add":  func() []uint32 { return nat.Add(a, zero) },
		"Sub":  func() []uint32 { d, _ := nat.Sub(a, zero); return d },
		"Mul":  func() []uint32 { return nat.Mul(a, []uint32{1}) },
		"Shl":  func() []uint32 { s, _ := nat.Shl(a, 0); return s },
		"Shr":  func() []uint32 { return nat.Shr(a, 0) },
		"Back": func() []uint32 { return nat.Shr(a, -1) },
	} {
		fill(call())
		if !slices.Equal(a, []uint32{1, 2, 3, 0, 0}) || zero[0] != 0 {
			t.Fatal(name, "shares", a, zero)
		}
		if got := call(); !slices.Equal(got, []uint32{1, 2, 3}) {
			t.Error(name, got)
		}
	}
	empty := make([]uint32, 0, 4)
	fill(nat.Trim(empty))
	if !slices.Equal(empty[:4], make([]uint32, 4)) {
		t.Error("Trim hands out spare room")
	}
}
