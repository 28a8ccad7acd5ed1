package tabc_test

import (
	"math"
	"slices"
	"strings"
	"testing"

	"astrolabe/api"
	"astrolabe/cheb"
	"astrolabe/dyad"
	"astrolabe/tabc"
	"astrolabe/zint"
)

// num is m times 2^e, not looked at.
func num(m, e int) api.Dy { return api.Dy{M: zint.From(m), E: e} }

func same(x, y api.Dy) bool {
	return x.E == y.E && x.M.Neg == y.M.Neg && slices.Equal(x.M.Mag, y.M.Mag)
}

func sameTable(s, t api.Table) bool {
	return s.Fun == t.Fun && s.Order == t.Order && same(s.A, t.A) && s.W == t.W && s.Prec == t.Prec && s.Degree == t.Degree && slices.EqualFunc(s.Pieces, t.Pieces, func(p, q api.Piece) bool {
		return same(p.A, q.A) && p.W == q.W && slices.EqualFunc(p.C, q.C, same) && same(p.Err, q.Err)
	})
}

// bytes are Bytes of numbers, one behind the other.
func bytes(l ...api.Dy) string {
	var s string
	for _, x := range l {
		b, _ := dyad.Bytes(x)
		s += b
	}
	return s
}

// table is a right table of three pieces, and text is what Encode should say.
func table() (t api.Table, text string) {
	t = api.Table{Fun: api.Bessel, Order: 7, A: num(-3, -1), W: 2, Prec: 48, Degree: 1}
	t.Pieces = []api.Piece{
		{A: num(-3, -1), W: 0, C: []api.Dy{num(1, 0), num(-3, -70)}, Err: num(1, -50)},
		{A: num(-1, -1), W: 0, C: []api.Dy{{}, num(5, 40)}, Err: api.Dy{}},
		{A: num(1, -1), W: 1, C: []api.Dy{num(1<<40+1, 3), {}}, Err: num(7, 3)},
	}
	text = "T\x0a\x07\x30\x01\x82\x03" + bytes(num(-3, -1))
	text += "\x80" + bytes(num(1, -50), num(1, 0), num(-3, -70))
	text += "\x80" + bytes(num(0, 0), num(0, 0), num(5, 40))
	text += "\x81" + bytes(num(7, 3), num(1<<40+1, 3), num(0, 0))
	return t, text
}

// P16.1
func TestEncode(t *testing.T) {
	tab, want := table()
	if got, e := tabc.Encode(tab); got != want || e != api.OK {
		t.Errorf("Encode: %q %d, want %q", got, e, want)
	}
	if got := tabc.Size(tab); got != len(want) {
		t.Error("Size", got, len(want))
	}
	for name, change := range map[string]func(t *api.Table){
		"Fun":       func(t *api.Table) { t.Fun = 11 },
		"Order":     func(t *api.Table) { t.Order = 65 },
		"A":         func(t *api.Table) { t.A = num(2, 0) },
		"W":         func(t *api.Table) { t.W = 3 },
		"Prec":      func(t *api.Table) { t.Prec = 49 },
		"Degree":    func(t *api.Table) { t.Degree = 2 },
		"none":      func(t *api.Table) { t.Pieces = nil },
		"far C":     func(t *api.Table) { t.Pieces[1].C[0] = num(1, 65536) },
		"far Err":   func(t *api.Table) { t.Pieces[2].Err = num(1, -65538) },
		"wild C":    func(t *api.Table) { t.Pieces[0].C[1] = num(1, math.MaxInt) },
		"below Err": func(t *api.Table) { t.Pieces[0].Err = num(-1, 0) },
	} {
		tab, _ := table()
		change(&tab)
		if got, e := tabc.Encode(tab); got != "" || e != api.ErrArg {
			t.Error("Encode", name, got, e)
		}
		if got := tabc.Size(tab); got != 0 {
			t.Error("Size", name, got)
		}
	}
}

// P16.1, P16.2
func TestDecode(t *testing.T) {
	tab, text := table()
	if got, e := tabc.Decode(text); e != api.OK || !sameTable(got, tab) {
		t.Error("Decode", got, e)
	}
	bad := func(name, b string) {
		t.Helper()
		if got, e := tabc.Decode(b); e != api.ErrForm || !sameTable(got, api.Table{}) || got.Pieces != nil {
			t.Errorf("Decode of %s: %v %d", name, got, e)
		}
	}
	for i := range text {
		bad("a part", text[:i])
	}
	bad("more", text+"\x00")
	bad("all twice", text+text)
	bad("many bytes", strings.Repeat("T", 100000))
	bad("bytes of ones", strings.Repeat("\xff", 5000))
	for i := range text {
		for _, turned := range []byte{1, 2, 0x80, 0xff} {
			b := []byte(text)
			b[i] ^= turned
			got, e := tabc.Decode(string(b))
			if e == api.OK {
				if again, e := tabc.Encode(got); e != api.OK || again != string(b) || !cheb.Right(got) {
					t.Error("Decode is not what was written", i, turned, e)
				}
			} else if e != api.ErrForm || !sameTable(got, api.Table{}) {
				t.Error("Decode", i, turned, got, e)
			}
		}
	}
	for i, b := range map[int]byte{0: 't', 1: 11, 2: 65, 3: 3, 4: 2, 5: 0x81, 6: 2} {
		changed := []byte(text)
		changed[i] = b
		bad("a changed head", string(changed))
	}
}

// P16.2, of tables that were built.
func TestBuilt(t *testing.T) {
	for _, c := range []struct {
		f, n    int
		a       api.Dy
		w, p, d int
	}{{api.Sin, 0, api.Dy{}, -2, 8, 3}, {api.Erf, 0, num(-1, 0), 1, 20, 6}, {api.Bessel, 64, num(-1, 0), 1, 4, 1}, {api.Ln, 0, num(1, 0), -30, 48, 16}} {
		tab, _, e := cheb.Build(c.f, c.n, c.a, c.w, c.p, c.d, 63)
		b, e2 := tabc.Encode(tab)
		got, e3 := tabc.Decode(b)
		if e != api.OK || e2 != api.OK || e3 != api.OK || !sameTable(got, tab) || tabc.Size(tab) != len(b) {
			t.Error("written and read", c, e, e2, e3)
		}
	}
}

// P3: no two lists of an answer share memory.
func TestNewMemory(t *testing.T) {
	_, text := table()
	got, e := tabc.Decode(text)
	if e != api.OK {
		t.Fatal("Decode", e)
	}
	var numbers []api.Dy
	numbers = append(numbers, got.A)
	for _, p := range got.Pieces {
		numbers = append(append(numbers, p.A, p.Err), p.C...)
	}
	for i, x := range numbers {
		for j := range x.M.Mag[:cap(x.M.Mag)] {
			x.M.Mag[:cap(x.M.Mag)][j] = uint32(i) + 1000
		}
	}
	for i, x := range numbers {
		for _, d := range x.M.Mag {
			if d != uint32(i)+1000 {
				t.Error("digits are shared", i)
			}
		}
	}
}
