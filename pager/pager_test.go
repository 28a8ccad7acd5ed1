package pager_test

import (
	"math"
	"math/rand/v2"
	"slices"
	"strings"
	"testing"

	"astrolabe/api"
	"astrolabe/disk"
	"astrolabe/page"
	"astrolabe/pager"
)

func newDisk(t *testing.T, sectors int) *disk.Disk {
	t.Helper()
	d, e := disk.New(sectors)
	if e != api.OK {
		t.Fatal("New", sectors, e)
	}
	return d
}

func format(t *testing.T, d *disk.Disk) *pager.Pager {
	t.Helper()
	p, e := pager.Format(d)
	if e != api.OK || p == nil {
		t.Fatal("Format", e)
	}
	return p
}

// alloc hands out many pages.
func alloc(t *testing.T, p *pager.Pager, many int) []int {
	t.Helper()
	var l []int
	for range many {
		n, e := p.Alloc()
		if e != api.OK {
			t.Fatal("Alloc", e)
		}
		l = append(l, n)
	}
	return l
}

// is fails, if the pager says something else.
func is(t *testing.T, p *pager.Pager, turn, root int, used, fresh []int) {
	t.Helper()
	if p.Turn() != turn || p.Root() != root || !slices.Equal(p.Used(), used) || !slices.Equal(p.Fresh(), fresh) {
		t.Errorf("turn %d, root %d, used %v, fresh %v; want %d %d %v %v", p.Turn(), p.Root(), p.Used(), p.Fresh(), turn, root, used, fresh)
	}
}

// headText is a head's text.
func headText(turn, root int, used ...int) string {
	b := make([]byte, 72)
	for i := range 6 {
		b[i] = byte(turn >> (40 - 8*i))
	}
	b[6], b[7] = byte(root>>8), byte(root)
	for _, n := range used {
		b[8+n/8] |= 1 << (n % 8)
	}
	return string(b)
}

// count is the numbers from 0 on, below n.
func count(n int) []int {
	var l []int
	for i := range n {
		l = append(l, i)
	}
	return l
}

// P19.1
func TestFormat(t *testing.T) {
	for _, n := range []int{1, 6, 7} {
		if p, e := pager.Format(newDisk(t, n)); p != nil || e != api.ErrArg {
			t.Error("Format", n, p, e)
		}
		if p, e := pager.Open(newDisk(t, n)); p != nil || e != api.ErrArg {
			t.Error("Open", n, p, e)
		}
	}
	for _, n := range []int{8, 9, 100, 1023, 1024} {
		d := newDisk(t, n)
		d.Write(0, strings.Repeat("x", 64))
		p := format(t, d)
		is(t, p, 1, 0, []int{0, 1}, nil)
		if p.Pages() != n/2 || d.Waiting() != 0 || p.Down() {
			t.Error("Format", n, p.Pages(), d.Waiting(), p.Down())
		}
		if kind, text, e := page.Read(d, 1); kind != 1 || text != headText(1, 0, 0, 1) || e != api.OK {
			t.Error("the head", kind, text, e)
		}
		q, e := pager.Open(d)
		if e != api.OK {
			t.Fatal("Open", e)
		}
		is(t, q, 1, 0, []int{0, 1}, nil)
	}
	for fuse := range 4 {
		d := newDisk(t, 8)
		d.Fuse(fuse)
		p, e := pager.Format(d)
		if fuse < 3 && (p != nil || e != api.ErrDown) || fuse == 3 && e != api.OK {
			t.Error("Format with a fuse", fuse, e)
		}
		d.Barrier()
		if p, e := pager.Open(d); fuse < 3 && (p != nil || e != api.ErrDown) {
			t.Error("Open without power", fuse, e)
		}
	}
}

// P19.1: which heads there are, and which counts.
func TestOpen(t *testing.T) {
	type written struct {
		n, kind int
		text    string
	}
	far := headText(5, 0, 0, 1, 7)
	for name, c := range map[string]struct {
		l    []written
		turn int
	}{
		"none":              {nil, 0},
		"one":               {[]written{{1, 1, headText(7, 0, 0, 1)}}, 7},
		"the other":         {[]written{{0, 1, headText(8, 3, 0, 1, 3)}}, 8},
		"the greater":       {[]written{{0, 1, headText(8, 3, 0, 1, 3)}, {1, 1, headText(7, 0, 0, 1)}}, 8},
		"the greater again": {[]written{{0, 1, headText(8, 3, 0, 1, 3)}, {1, 1, headText(9, 0, 0, 1)}}, 9},
		"the greatest":      {[]written{{0, 1, headText(8, 0, 0, 1)}, {1, 1, headText(1<<48-1, 0, 0, 1)}}, 1<<48 - 1},
		"another kind":      {[]written{{1, 2, headText(7, 0, 0, 1)}}, 0},
		"a short text":      {[]written{{1, 1, headText(7, 0, 0, 1)[:71]}}, 0},
		"a long text":       {[]written{{1, 1, headText(7, 0, 0, 1) + "\x00"}}, 0},
		"turn 0":            {[]written{{0, 1, headText(0, 0, 0, 1)}}, 0},
		"the wrong page":    {[]written{{0, 1, headText(7, 0, 0, 1)}, {1, 1, headText(8, 0, 0, 1)}}, 0},
		"a head as root":    {[]written{{1, 1, headText(7, 1, 0, 1)}}, 0},
		"a root not used":   {[]written{{1, 1, headText(7, 3, 0, 1, 4)}}, 0},
		"a root far out":    {[]written{{1, 1, headText(7, 65535, 0, 1, 4)}}, 0},
		"page 0 not used":   {[]written{{1, 1, headText(7, 0, 1)}}, 0},
		"page 1 not used":   {[]written{{1, 1, headText(7, 0, 0)}}, 0},
		"the last page":     {[]written{{1, 1, headText(7, 5, 0, 1, 5)}}, 7},
		"beyond the last":   {[]written{{1, 1, headText(7, 0, 0, 1, 6)}}, 0},
		"far beyond":        {[]written{{1, 1, headText(7, 0, 0, 1, 511)}}, 0},
		"the one that fits": {[]written{{0, 1, headText(4, 2, 0, 1, 2)}, {1, 1, far}}, 4},
	} {
		d := newDisk(t, 12)
		for _, w := range c.l {
			if e := page.Write(d, w.n, w.kind, w.text); e != api.OK {
				t.Fatal(name, e)
			}
		}
		p, e := pager.Open(d)
		switch {
		case c.turn == 0 && (p != nil || e != api.ErrNone):
			t.Error("Open", name, e)
		case c.turn != 0 && e != api.OK:
			t.Error("Open", name, e)
		case c.turn != 0 && p.Turn() != c.turn:
			t.Error("Open", name, p.Turn())
		}
	}
}

// P19.2
func TestAllocWriteRead(t *testing.T) {
	d := newDisk(t, 12)
	p := format(t, d)
	for n := -1; n < 7; n++ {
		if e := p.Write(n, 3, "x"); e != api.ErrState {
			t.Error("Write of what is not fresh", n, e)
		}
	}
	if got := alloc(t, p, 3); !slices.Equal(got, []int{2, 3, 4}) {
		t.Error("Alloc", got)
	}
	is(t, p, 1, 0, []int{0, 1}, []int{2, 3, 4})
	waiting := d.Waiting()
	if e := p.Write(3, 0, "x"); e != api.ErrArg || d.Waiting() != waiting {
		t.Error("Write of kind 0", e)
	}
	if e := p.Write(3, 3, strings.Repeat("x", 121)); e != api.ErrArg {
		t.Error("Write of too much", e)
	}
	if e := p.Write(3, 3, "text"); e != api.OK {
		t.Error("Write", e)
	}
	if e := p.Write(3, 9, "another"); e != api.OK {
		t.Error("Write again", e)
	}
	if kind, text, e := p.Read(3); kind != 9 || text != "another" || e != api.OK {
		t.Error("Read", kind, text, e)
	}
	if kind, text, e := p.Read(1); kind != 1 || text != headText(1, 0, 0, 1) || e != api.OK {
		t.Error("Read of a head", kind, text, e)
	}
	if kind, text, e := p.Read(5); kind != 0 || text != "" || e != api.ErrSum {
		t.Error("Read of zeros", kind, text, e)
	}
	for _, n := range []int{-1, 6, math.MinInt, math.MaxInt} {
		if kind, text, e := p.Read(n); kind != 0 || text != "" || e != api.ErrArg {
			t.Error("Read", n, kind, text, e)
		}
		if e := p.Write(n, 1, ""); e != api.ErrState {
			t.Error("Write", n, e)
		}
	}
	alloc(t, p, 1)
	if n, e := p.Alloc(); n != 0 || e != api.ErrFull {
		t.Error("Alloc of a full disk", n, e)
	}
	is(t, p, 1, 0, []int{0, 1}, []int{2, 3, 4, 5})
}

// P19.2
func TestBack(t *testing.T) {
	p := format(t, newDisk(t, 20))
	alloc(t, p, 5)
	for _, c := range []struct{ many, left int }{{9, 5}, {math.MaxInt, 5}, {5, 5}, {3, 3}, {1, 1}, {0, 0}, {-1, 0}} {
		p.Back(c.many)
		is(t, p, 1, 0, []int{0, 1}, count(2 + c.left)[2:])
	}
	alloc(t, p, 3)
	p.Back(math.MinInt)
	is(t, p, 1, 0, []int{0, 1}, nil)
	alloc(t, p, 3)
	p.Back(1)
	if e := p.Write(3, 1, ""); e != api.ErrState {
		t.Error("Write of what is fresh no more", e)
	}
	if got := alloc(t, p, 1); got[0] != 3 {
		t.Error("Alloc behind Back", got)
	}
}

// P19.3
func TestCommitKeep(t *testing.T) {
	d := newDisk(t, 20)
	p := format(t, d)
	alloc(t, p, 4)
	for _, root := range []int{-1, 1, 6, 9, 10, math.MinInt, math.MaxInt} {
		if e := p.Commit(root); e != api.ErrArg {
			t.Error("Commit", root, e)
		}
	}
	if e := p.Keep(0, nil); e != api.ErrState {
		t.Error("Keep with fresh pages", e)
	}
	if e := p.Keep(7, []int{9}); e != api.ErrState {
		t.Error("Keep: the state comes first", e)
	}
	is(t, p, 1, 0, []int{0, 1}, []int{2, 3, 4, 5})
	p.Write(4, 3, "four")
	if e := p.Commit(4); e != api.OK || d.Waiting() != 0 {
		t.Error("Commit", e, d.Waiting())
	}
	is(t, p, 2, 4, count(6), nil)
	if kind, text, e := page.Read(d, 0); kind != 1 || text != headText(2, 4, 0, 1, 2, 3, 4, 5) || e != api.OK {
		t.Error("the head", kind, text, e)
	}
	if got := alloc(t, p, 1); got[0] != 6 {
		t.Error("Alloc behind Commit", got)
	}
	if e := p.Commit(2); e != api.OK { // a used page may be the root too
		t.Error("Commit", e)
	}
	is(t, p, 3, 2, count(7), nil)
	for _, c := range []struct {
		root  int
		pages []int
	}{{0, []int{7}}, {0, []int{2, -1}}, {0, []int{2, 0}}, {0, []int{1, 2}}, {0, []int{10}}, {3, []int{2, 4}}, {2, nil}, {1, []int{2}}, {-1, nil}, {0, []int{math.MinInt}}, {0, []int{math.MaxInt}}, {math.MinInt, []int{2}}} {
		if e := p.Keep(c.root, c.pages); e != api.ErrArg {
			t.Error("Keep", c, e)
		}
		is(t, p, 3, 2, count(7), nil)
	}
	pages := []int{5, 2, 5, 4}
	if e := p.Keep(4, pages); e != api.OK || !slices.Equal(pages, []int{5, 2, 5, 4}) || d.Waiting() != 0 {
		t.Error("Keep", e, pages, d.Waiting())
	}
	is(t, p, 4, 4, []int{0, 1, 2, 4, 5}, nil)
	if got := alloc(t, p, 2); !slices.Equal(got, []int{3, 6}) {
		t.Error("Alloc behind Keep", got)
	}
	p.Back(0)
	if e := p.Keep(0, nil); e != api.OK {
		t.Error("Keep of nothing", e)
	}
	q, e := pager.Open(d)
	if e != api.OK {
		t.Fatal("Open", e)
	}
	is(t, q, 5, 0, []int{0, 1}, nil)
}

// P19.3: a turn's six bytes turn over.
func TestTurn(t *testing.T) {
	d := newDisk(t, 8)
	page.Write(d, 1, 1, headText(1<<48-1, 0, 0, 1))
	page.Write(d, 0, 1, headText(1<<48-2, 0, 0, 1))
	p, e := pager.Open(d)
	if e != api.OK || p.Turn() != 1<<48-1 {
		t.Fatal("Open", e)
	}
	if e := p.Commit(0); e != api.OK || p.Turn() != 1<<48 {
		t.Error("Commit", e, p.Turn())
	}
	if _, text, e := page.Read(d, 0); e != api.OK || text != headText(0, 0, 0, 1) {
		t.Error("the head", text, e)
	}
	if e := p.Commit(0); e != api.OK || p.Turn() != 1<<48+1 {
		t.Error("Commit", e, p.Turn())
	}
	if _, text, e := page.Read(d, 1); e != api.OK || text != headText(1, 0, 0, 1) {
		t.Error("the head", text, e)
	}
}

// P19.1, P19.3: turns, roots and pages of more than a byte.
func TestGreatNumbers(t *testing.T) {
	d := newDisk(t, 1024)
	const turn = 0x010203040506
	page.Write(d, turn%2, 1, headText(turn, 0, 0, 1))
	p, e := pager.Open(d)
	if e != api.OK || p.Turn() != turn || p.Pages() != 512 {
		t.Fatal("Open", e)
	}
	alloc(t, p, 510)
	if e := p.Commit(0x1ff); e != api.OK {
		t.Error("Commit", e)
	}
	if _, text, e := page.Read(d, (turn+1)%2); e != api.OK || text != headText(turn+1, 0x1ff, count(512)...) {
		t.Errorf("the head: %q %d", text, e)
	}
	kept := []int{7, 8, 63, 64, 65, 255, 256, 300, 510, 511}
	if e := p.Keep(0x12c, kept); e != api.OK {
		t.Error("Keep", e)
	}
	q, e := pager.Open(d)
	if e != api.OK {
		t.Fatal("Open", e)
	}
	is(t, q, turn+2, 0x12c, append([]int{0, 1}, kept...), nil)
	if n, e := q.Alloc(); n != 2 || e != api.OK {
		t.Error("Alloc", n, e)
	}
}

// P19.2, P19.3: the power goes, and the pager stays down.
func TestDown(t *testing.T) {
	calls := map[string]func(p *pager.Pager) api.Errno{
		"Alloc":     func(p *pager.Pager) api.Errno { n, e := p.Alloc(); return e + api.Errno(n) },
		"Write":     func(p *pager.Pager) api.Errno { return p.Write(2, 1, "x") },
		"Write bad": func(p *pager.Pager) api.Errno { return p.Write(99, 0, "x") },
		"Read":      func(p *pager.Pager) api.Errno { _, _, e := p.Read(1); return e },
		"Read bad":  func(p *pager.Pager) api.Errno { _, _, e := p.Read(-1); return e },
		"Commit":    func(p *pager.Pager) api.Errno { return p.Commit(0) },
		"Commit 1":  func(p *pager.Pager) api.Errno { return p.Commit(1) },
		"Keep":      func(p *pager.Pager) api.Errno { return p.Keep(9, []int{9}) },
	}
	for name, f := range map[string]func(p *pager.Pager) api.Errno{"Write": calls["Write"], "Commit": calls["Commit"]} {
		d := newDisk(t, 12)
		p := format(t, d)
		alloc(t, p, 2)
		d.Fuse(0)
		if p.Down() {
			t.Error(name, "is down too early")
		}
		if e := f(p); e != api.ErrDown || !p.Down() {
			t.Error(name, e, p.Down())
		}
		d.Crash(nil, -1, 0)
		for other, call := range calls {
			if e := call(p); e != api.ErrDown {
				t.Error(other, "of a pager that is down", e)
			}
		}
		is(t, p, 1, 0, []int{0, 1}, []int{2, 3})
		if p.Pages() != 6 {
			t.Error("Pages", p.Pages())
		}
		p.Back(1)
		is(t, p, 1, 0, []int{0, 1}, []int{2})
	}
	d := newDisk(t, 12)
	p := format(t, d)
	d.Fuse(0)
	d.Barrier()
	if _, _, e := p.Read(1); e != api.ErrDown || !p.Down() {
		t.Error("Read makes it down", e, p.Down())
	}
}

// P19.4
func TestCrashes(t *testing.T) {
	r := rand.New(rand.NewPCG(161, 162))
	for _, keeps := range []bool{false, true} {
		for fuse := range 5 {
			for range 150 {
				d := newDisk(t, 20)
				p := format(t, d)
				alloc(t, p, 4)
				for n := 2; n < 6; n++ {
					p.Write(n, 3, strings.Repeat("x", n))
				}
				p.Commit(3)
				d.Fuse(fuse)
				change := func() api.Errno { return p.Keep(4, []int{4, 5}) }
				if !keeps {
					alloc(t, p, 2)
					change = func() api.Errno { return p.Commit(7) }
				}
				if e := change(); (e == api.OK) != (fuse == 4) || fuse < 4 && e != api.ErrDown {
					t.Fatal("the change", fuse, e)
				}
				if fuse < 4 && (p.Turn() != 2 || p.Root() != 3 || !slices.Equal(p.Used(), count(6))) {
					t.Error("the head that counts has changed")
				}
				d.Crash([]int{r.IntN(2), r.IntN(2), r.IntN(2)}, r.IntN(4)-1, r.IntN(65))
				q, e := pager.Open(d)
				if e != api.OK {
					t.Fatal("Open", fuse, e)
				}
				wantUsed, wantRoot := count(8), 7
				if keeps {
					wantUsed, wantRoot = []int{0, 1, 4, 5}, 4
				}
				if q.Turn() == 2 && fuse < 4 {
					is(t, q, 2, 3, count(6), nil)
				} else {
					is(t, q, 3, wantRoot, wantUsed, nil)
				}
				for _, n := range []int{4, 5} {
					if kind, text, e := q.Read(n); kind != 3 || len(text) != n || e != api.OK {
						t.Error("Read", n, kind, text, e)
					}
				}
			}
		}
	}
}

// P3: lists that are answered are nobody's else.
func TestNewLists(t *testing.T) {
	p := format(t, newDisk(t, 12))
	alloc(t, p, 3)
	p.Fresh()[0], p.Used()[0] = 99, 99
	fresh := p.Fresh()
	_ = append(fresh[:1], 88)
	is(t, p, 1, 0, []int{0, 1}, []int{2, 3, 4})
	before := p.Fresh()
	p.Back(1)
	alloc(t, p, 1)
	p.Commit(0)
	if !slices.Equal(before, []int{2, 3, 4}) {
		t.Error("an answer changes", before)
	}
}
