package konst_test

import (
	"math/big"
	"slices"
	"testing"

	"astrolabe/api"
	"astrolabe/dyad"
	"astrolabe/iv"
	"astrolabe/konst"
	"astrolabe/small"
	"astrolabe/zint"
)

// The first digits of pi, of the logarithm of 2, and of the root of pi, behind the point.
const (
	pi   = "3.14159265358979323846264338327950288419716939937510582097494459230781640628620899862803482534211706798214808651328230664709384460955058223172535940812848111745"
	ln2  = "0.69314718055994530941723212145817656807550013436025525412068000949339362196969471560586332699641868754200148102057068573368552023575813055703267075163507596193"
	root = "1.77245385090551602729816748334114518279754945612238712821380778985291128459103218137495065673854466541622682362428257066623615286572442260252509370960278706846"
)

var constants = []struct {
	name   string
	call   func(c *iv.Calc) api.Iv
	digits string
}{{"Pi", konst.Pi, pi}, {"Ln2", konst.Ln2, ln2}, {"Root", konst.Root, root}}

func calc(t *testing.T, p int) *iv.Calc {
	t.Helper()
	c, e := iv.New(p)
	if e != api.OK {
		t.Fatal("New", p, e)
	}
	return c
}

func same(x, y api.Dy) bool {
	return x.E == y.E && x.M.Neg == y.M.Neg && slices.Equal(x.M.Mag, y.M.Mag)
}

func equal(a, b api.Iv) bool { return same(a.Lo, b.Lo) && same(a.Hi, b.Hi) }

func toRat(x api.Dy) *big.Rat {
	n := new(big.Int)
	for i := len(x.M.Mag) - 1; i >= 0; i-- {
		n.Lsh(n, 32)
		n.Or(n, big.NewInt(int64(x.M.Mag[i])))
	}
	if x.M.Neg {
		n.Neg(n)
	}
	p := new(big.Int).Lsh(big.NewInt(1), uint(max(x.E, -x.E)))
	if x.E < 0 {
		return new(big.Rat).SetFrac(n, p)
	}
	return new(big.Rat).SetInt(n.Mul(n, p))
}

// P8.1: bit by bit what the chapter's words say.
func TestWords(t *testing.T) {
	for _, p := range []int{2, 3, 4, 5, 8, 17, 32, 64, 96, 127, 368, 400} {
		c := calc(t, p)
		first := c.Scale(small.Atan(c, c.Div(c.Int(1), c.Int(5))), 4)
		want := c.Sub(first, c.Scale(small.Atan(c, c.Div(c.Int(1), c.Int(239))), 2))
		if got := konst.Pi(calc(t, p)); !equal(got, want) || c.Err() != api.OK {
			t.Error("Pi", p, got, want)
		}
		other := calc(t, p)
		root := other.Sqrt(want)
		again := calc(t, p)
		if got := konst.Root(again); !equal(got, root) || again.Err() != other.Err() {
			t.Error("Root", p, got, root, again.Err())
		}
		if got, want := konst.Ln2(calc(t, p)), c.Scale(small.Atanh(c, c.Div(c.Int(1), c.Int(3))), 1); !equal(got, want) {
			t.Error("Ln2", p, got, want)
		}
	}
}

// P8.1: the numbers are in the answers, which are narrow.
func TestValues(t *testing.T) {
	for _, k := range constants {
		value, _ := new(big.Rat).SetString(k.digits)
		next := new(big.Rat).Add(value, new(big.Rat).SetFrac(big.NewInt(1), new(big.Int).Exp(big.NewInt(10), big.NewInt(158), nil)))
		for _, p := range []int{16, 30, 64, 100, 200, 400} {
			c := calc(t, p)
			got := k.call(c)
			if c.Err() != api.OK || toRat(got.Lo).Cmp(next) > 0 || toRat(got.Hi).Cmp(value) < 0 {
				t.Error(k.name, p, got, c.Err())
			}
			c = calc(t, 400)
			if wide := c.Sub(c.Point(got.Hi), c.Point(got.Lo)).Hi; dyad.Cmp(wide, dyad.Half(13-p)) > 0 {
				t.Error(k.name, p, "is wide", wide)
			}
		}
	}
	p := konst.Pi(calc(t, 64))
	c := calc(t, 64)
	if dyad.Cmp(p.Lo, dyad.From(3)) <= 0 || dyad.Cmp(p.Hi, c.Div(c.Int(22), c.Int(7)).Lo) >= 0 {
		t.Error("the example", p)
	}
}

// P8.1: with an error of the calculator there comes 0, and the error stays.
func TestErrors(t *testing.T) {
	for _, k := range constants {
		c := calc(t, 64)
		c.Point(api.Dy{M: zint.From(2)})
		if got := k.call(c); !equal(got, api.Iv{}) || c.Err() != api.ErrArg {
			t.Error(k.name, got, c.Err())
		}
	}
}

// P8.2
func TestPrecisions(t *testing.T) {
	for _, k := range constants {
		last := k.call(calc(t, 12))
		for p := 16; p <= 400; p += 32 {
			next := k.call(calc(t, p))
			c := calc(t, 400)
			if c.Meet(last, next); c.Err() != api.OK {
				t.Error(k.name, p, "has nothing in common with", last)
			}
			wide, was := c.Sub(c.Point(next.Hi), c.Point(next.Lo)), c.Sub(c.Point(last.Hi), c.Point(last.Lo))
			if dyad.Cmp(wide.Hi, was.Lo) >= 0 {
				t.Error(k.name, p, "is not narrower")
			}
			last = next
		}
	}
}
