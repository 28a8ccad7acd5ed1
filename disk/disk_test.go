package disk_test

import (
	"math"
	"math/rand/v2"
	"slices"
	"strings"
	"testing"

	"astrolabe/api"
	"astrolabe/disk"
)

// text is a sector full of one byte.
func text(b byte) string { return strings.Repeat(string([]byte{b}), api.Sector) }

func fresh(t *testing.T, sectors int) *disk.Disk {
	t.Helper()
	d, e := disk.New(sectors)
	if e != api.OK || d == nil {
		t.Fatal("New", sectors, e)
	}
	return d
}

// reads fails, if sector i reads as something else.
func reads(t *testing.T, d *disk.Disk, i int, want string) {
	t.Helper()
	if got, e := d.Read(i); got != want || e != api.OK {
		t.Errorf("Read(%d): %q %d, want %q", i, got, e, want)
	}
}

// P17.1
func TestNew(t *testing.T) {
	for _, n := range []int{0, -1, 1025, math.MaxInt, math.MinInt} {
		if d, e := disk.New(n); d != nil || e != api.ErrArg {
			t.Error("New", n, d, e)
		}
	}
	for _, n := range []int{1, 7, 1024} {
		d := fresh(t, n)
		if d.Sectors() != n || d.Waiting() != 0 || d.Down() {
			t.Error("New", n, d.Sectors(), d.Waiting(), d.Down())
		}
		for i := range n {
			reads(t, d, i, text(0))
		}
	}
}

// P17.1
func TestWriteRead(t *testing.T) {
	d := fresh(t, 3)
	for _, c := range []struct {
		i int
		s string
	}{{-1, text(1)}, {3, text(1)}, {math.MinInt, text(1)}, {math.MaxInt, text(1)}, {0, ""}, {0, "abc"}, {0, text(1) + "x"}, {0, text(1)[1:]}} {
		if e := d.Write(c.i, c.s); e != api.ErrArg {
			t.Error("Write", c.i, len(c.s), e)
		}
	}
	for _, i := range []int{-1, 3, math.MinInt, math.MaxInt} {
		if s, e := d.Read(i); s != "" || e != api.ErrArg {
			t.Error("Read", i, s, e)
		}
	}
	if d.Waiting() != 0 {
		t.Error("a refused write waits", d.Waiting())
	}
	for n, b := range []byte{1, 2, 3} {
		if e := d.Write(1, text(b)); e != api.OK || d.Waiting() != n+1 {
			t.Error("Write", e, d.Waiting())
		}
		reads(t, d, 1, text(b))
	}
	reads(t, d, 0, text(0))
	reads(t, d, 2, text(0))
	if e := d.Barrier(); e != api.OK || d.Waiting() != 0 {
		t.Error("Barrier", e, d.Waiting())
	}
	reads(t, d, 1, text(3))
	if e := d.Barrier(); e != api.OK {
		t.Error("Barrier of nothing", e)
	}
}

// P17.2
func TestFuse(t *testing.T) {
	d := fresh(t, 4)
	d.Fuse(3)
	if e := d.Write(0, text(1)); e != api.OK {
		t.Error("act 1", e)
	}
	if e := d.Write(9, text(1)); e != api.ErrArg {
		t.Error("what is refused is no act", e)
	}
	if e := d.Barrier(); e != api.OK {
		t.Error("act 2", e)
	}
	reads(t, d, 0, text(1))
	if e := d.Write(1, text(2)); e != api.OK || d.Down() {
		t.Error("act 3", e)
	}
	reads(t, d, 1, text(2)) // no act either, though the fuse has burnt down
	if e := d.Write(9, text(1)); e != api.ErrArg || d.Down() {
		t.Error("ahead of the next act the power is there", e)
	}
	if e := d.Write(2, text(3)); e != api.ErrDown || !d.Down() || d.Waiting() != 1 {
		t.Error("the act that is not done", e, d.Down(), d.Waiting())
	}
	if e := d.Write(9, "x"); e != api.ErrDown {
		t.Error("Write", e)
	}
	if s, e := d.Read(9); s != "" || e != api.ErrDown {
		t.Error("Read", s, e)
	}
	if s, e := d.Read(0); s != "" || e != api.ErrDown {
		t.Error("Read", s, e)
	}
	if e := d.Barrier(); e != api.ErrDown || d.Waiting() != 1 || d.Sectors() != 4 {
		t.Error("Barrier", e, d.Waiting())
	}
	d.Fuse(-1)
	if e := d.Barrier(); e != api.ErrDown {
		t.Error("no fuse brings no power", e)
	}
	d.Fuse(0)
	d.Crash(nil, -1, 0)
	reads(t, d, 0, text(1))
	reads(t, d, 1, text(0))
	reads(t, d, 2, text(0))
	if e := d.Write(0, text(9)); e != api.OK {
		t.Error("behind a crash there is no fuse", e)
	}
}

// P17.2
func TestFuseNumbers(t *testing.T) {
	for _, n := range []int{-1, -7, math.MinInt, math.MaxInt} {
		d := fresh(t, 1)
		d.Fuse(2)
		d.Fuse(n)
		for range 9 {
			if e := d.Write(0, text(1)); e != api.OK {
				t.Error("Fuse", n, e)
			}
		}
	}
	d := fresh(t, 1)
	d.Fuse(0)
	if d.Down() {
		t.Error("the power goes with the next act only")
	}
	if e := d.Barrier(); e != api.ErrDown || !d.Down() {
		t.Error("Barrier is an act", e)
	}
}

// P17.3
func TestCrash(t *testing.T) {
	for _, c := range []struct {
		name      string
		keep      []int
		torn, cut int
		want      [4]string
	}{
		{"nothing", nil, -1, 64, [4]string{text(9), text(9), text(9), text(0)}},
		{"some", []int{1, 0, 3}, -1, 64, [4]string{text(1), text(9), text(3), text(0)}},
		{"odd ones", []int{-1, 2, math.MinInt, math.MaxInt}, 99, 64, [4]string{text(4), text(9), text(9), text(0)}},
		{"more than there are", []int{0, 1, 0, 0, 1, 1}, math.MinInt, 0, [4]string{text(9), text(2), text(9), text(0)}},
		{"one behind the other", []int{1, 1, 1, 1}, math.MaxInt, 0, [4]string{text(4), text(2), text(3), text(0)}},
		{"torn", []int{0, 1}, 2, 5, [4]string{text(9), text(2), text(3)[:5] + text(9)[5:], text(0)}},
		{"torn though kept", []int{0, 1, 1}, 2, 65 + 7, [4]string{text(9), text(2), text(3)[:7] + text(9)[7:], text(0)}},
		{"torn: nothing", []int{0, 1}, 1, 65, [4]string{text(9), text(9), text(9), text(0)}},
		{"torn: all", nil, 1, 64, [4]string{text(9), text(2), text(9), text(0)}},
		{"torn from below", nil, 1, -11, [4]string{text(9), text(2)[:10] + text(9)[10:], text(9), text(0)}},
		{"torn by -1", nil, 1, -1, [4]string{text(9), text(9), text(9), text(0)}},
		{"torn by the least", nil, 0, math.MinInt, [4]string{text(1)[:math.MaxInt%65] + text(9)[math.MaxInt%65:], text(9), text(9), text(0)}},
		{"torn by the greatest", nil, 0, math.MaxInt, [4]string{text(1)[:math.MaxInt%65] + text(9)[math.MaxInt%65:], text(9), text(9), text(0)}},
		{"torn over what was kept", []int{1}, 3, 3, [4]string{text(4)[:3] + text(1)[3:], text(9), text(9), text(0)}},
	} {
		d := fresh(t, 4)
		for i := range 3 {
			d.Write(i, text(9))
		}
		d.Barrier()
		for _, w := range []struct {
			i int
			b byte
		}{{0, 1}, {1, 2}, {2, 3}, {0, 4}} {
			d.Write(w.i, text(w.b))
		}
		keep := slices.Clone(c.keep)
		d.Crash(keep, c.torn, c.cut)
		if !slices.Equal(keep, c.keep) {
			t.Error(c.name, "keep was written into")
		}
		for i, want := range c.want {
			if got, e := d.Read(i); got != want || e != api.OK {
				t.Errorf("%s: sector %d: %q %d, want %q", c.name, i, got, e, want)
			}
		}
		if d.Waiting() != 0 || d.Down() {
			t.Error(c.name, d.Waiting(), d.Down())
		}
	}
}

// model is a disk in the simplest words.
type model struct {
	lasting, cached []string
	writes          []int
	texts           []string
}

func (m *model) last(i int, s string) { m.lasting[i] = s }

// P17.1 to P17.4: many acts at random, as a model does them.
func TestAsModel(t *testing.T) {
	r := rand.New(rand.NewPCG(141, 142))
	for range 200 {
		n := 1 + r.IntN(5)
		d, m := fresh(t, n), model{lasting: make([]string, n), cached: make([]string, n)}
		for i := range n {
			m.lasting[i], m.cached[i] = text(0), text(0)
		}
		for range 60 {
			switch r.IntN(8) {
			case 0:
				d.Barrier()
				copy(m.lasting, m.cached)
				m.writes, m.texts = nil, nil
			case 1:
				keep, torn, cut := make([]int, r.IntN(9)), r.IntN(12)-2, r.IntN(300)-150
				for i := range keep {
					keep[i] = r.IntN(5)
				}
				d.Crash(keep, torn, cut)
				if cut < 0 {
					cut = -cut - 1
				}
				for k, i := range m.writes {
					if k == torn {
						m.last(i, m.texts[k][:cut%65]+m.lasting[i][cut%65:])
					} else if k < len(keep) && keep[k]%2 == 1 {
						m.last(i, m.texts[k])
					}
				}
				copy(m.cached, m.lasting)
				m.writes, m.texts = nil, nil
			default:
				i, s := r.IntN(n), text(byte(r.IntN(256)))
				d.Write(i, s)
				m.cached[i] = s
				m.writes, m.texts = append(m.writes, i), append(m.texts, s)
			}
			if d.Waiting() != len(m.writes) {
				t.Fatal("Waiting", d.Waiting(), len(m.writes))
			}
			for i := range n {
				reads(t, d, i, m.cached[i])
			}
		}
	}
}
