package blob_test

import (
	"math"
	"math/rand/v2"
	"slices"
	"strings"
	"testing"

	"astrolabe/api"
	"astrolabe/blob"
	"astrolabe/disk"
	"astrolabe/pager"
)

func newPager(t *testing.T, sectors int) (*disk.Disk, *pager.Pager) {
	t.Helper()
	d, e := disk.New(sectors)
	if e != api.OK {
		t.Fatal("New", e)
	}
	p, e := pager.Format(d)
	if e != api.OK {
		t.Fatal("Format", e)
	}
	return d, p
}

func random(r *rand.Rand, n int) string {
	b := make([]byte, n)
	for i := range b {
		b[i] = byte(r.IntN(256))
	}
	return string(b)
}

// refused fails, if Read and Pages have another error, or answer beside it.
func refused(t *testing.T, what string, p *pager.Pager, first int, want api.Errno) {
	t.Helper()
	if s, e := blob.Read(p, first); s != "" || e != want {
		t.Errorf("Read of %s: %q %d, want %d", what, s, e, want)
	}
	if l, e := blob.Pages(p, first); len(l) != 0 || e != want {
		t.Errorf("Pages of %s: %v %d, want %d", what, l, e, want)
	}
}

// P20.1
func TestNeed(t *testing.T) {
	for _, c := range []struct{ n, want int }{
		{0, 1}, {1, 1}, {118, 1}, {119, 2}, {236, 2}, {237, 3}, {60000, 509}, {-1, 1}, {math.MinInt, 1}, {1 << 20, 8887}, {1<<20 + 1, 8887}, {math.MaxInt, 8887},
	} {
		if got := blob.Need(c.n); got != c.want {
			t.Error("Need", c.n, got)
		}
	}
}

// P20.1 to P20.3
func TestWriteRead(t *testing.T) {
	r := rand.New(rand.NewPCG(171, 172))
	for _, n := range []int{0, 1, 117, 118, 119, 235, 236, 237, 5000, 58000} {
		_, p := newPager(t, 1024)
		p.Alloc()
		s := random(r, n)
		first, e := blob.Write(p, s)
		if first != 3 || e != api.OK || len(p.Fresh()) != 1+blob.Need(n) {
			t.Error("Write", n, first, e, len(p.Fresh()))
		}
		pages, e := blob.Pages(p, first)
		if e != api.OK || !slices.Equal(pages, p.Fresh()[1:]) {
			t.Error("Pages", n, pages, e)
		}
		if got, e := blob.Read(p, first); got != s || e != api.OK {
			t.Error("Read", n, len(got), e)
		}
		for i, page := range pages {
			next := 0
			if i+1 < len(pages) {
				next = pages[i+1]
			}
			want := string([]byte{byte(next >> 8), byte(next)}) + s[118*i:min(n, 118*i+118)]
			if kind, text, e := p.Read(page); kind != 2 || text != want || e != api.OK {
				t.Error("a page", n, i, kind, len(text), e)
			}
		}
		p.Commit(first)
		again, e := blob.Write(p, "more")
		if got, e2 := blob.Read(p, first); got != s || e != api.OK || e2 != api.OK || again == first {
			t.Error("Read behind Commit", n, len(got), e, e2)
		}
		if got, e := blob.Read(p, again); got != "more" || e != api.OK {
			t.Error("the other text", got, e)
		}
	}
}

// P20.1: pages come as Alloc hands them out, not in a row.
func TestScattered(t *testing.T) {
	_, p := newPager(t, 40)
	for range 8 {
		p.Alloc()
	}
	p.Commit(0)
	p.Keep(0, []int{3, 4, 7})
	s := strings.Repeat("abcdefg", 60)
	first, e := blob.Write(p, s)
	pages, e2 := blob.Pages(p, first)
	if e != api.OK || e2 != api.OK || !slices.Equal(pages, []int{2, 5, 6, 8}) {
		t.Error("Write", first, pages, e, e2)
	}
	if got, e := blob.Read(p, 5); got != s[118:] || e != api.OK {
		t.Error("Read from the second page on", got, e)
	}
}

// P20.1: what may go wrong.
func TestWriteErrors(t *testing.T) {
	d, p := newPager(t, 20)
	p.Alloc()
	for _, n := range []int{60001, 100000} {
		if first, e := blob.Write(p, strings.Repeat("x", n)); first != 0 || e != api.ErrArg {
			t.Error("Write", n, first, e)
		}
	}
	for _, n := range []int{60000, 118*7 + 1} {
		if first, e := blob.Write(p, strings.Repeat("x", n)); first != 0 || e != api.ErrFull || !slices.Equal(p.Fresh(), []int{2}) {
			t.Error("Write", n, first, e, p.Fresh())
		}
	}
	if first, e := blob.Write(p, strings.Repeat("x", 118*7)); first != 3 || e != api.OK {
		t.Error("Write of a full disk", first, e)
	}
	p.Back(1)
	d.Fuse(3)
	if first, e := blob.Write(p, strings.Repeat("x", 300)); first != 0 || e != api.ErrDown || !slices.Equal(p.Fresh(), []int{2}) {
		t.Error("Write without power", first, e, p.Fresh())
	}
	if first, e := blob.Write(p, "x"); first != 0 || e != api.ErrDown {
		t.Error("Write of a pager that is down", first, e)
	}
	if first, e := blob.Write(p, strings.Repeat("x", 60001)); first != 0 || e != api.ErrArg {
		t.Error("Write: its own error comes first", first, e)
	}
	refused(t, "a pager that is down", p, 2, api.ErrDown)
}

// P20.2: what is no text.
func TestReadErrors(t *testing.T) {
	d, p := newPager(t, 20)
	for range 7 {
		p.Alloc()
	}
	write := func(n, kind int, text string) {
		t.Helper()
		if e := p.Write(n, kind, text); e != api.OK {
			t.Fatal("Write", n, e)
		}
	}
	for name, c := range map[string]struct {
		kind int
		text string
		want api.Errno
	}{
		"another kind": {3, "\x00\x00abc", api.ErrForm}, "no bytes": {2, "", api.ErrForm}, "one byte": {2, "\x00", api.ErrForm}, "itself": {2, "\x00\x05abc", api.ErrForm}, "one ahead": {2, "\x00\x04abc", api.ErrForm}, "the first": {2, "\x00\x02abc", api.ErrForm},
		"a head": {2, "\x00\x01abc", api.ErrForm}, "none": {2, "\x00\x0aabc", api.ErrForm}, "far out": {2, "\xff\xffabc", api.ErrForm}, "what was not written": {2, "\x00\x08abc", api.ErrSum}, "never handed out": {2, "\x00\x09abc", api.ErrSum},
	} {
		write(2, 2, "\x00\x04two")
		write(4, 2, "\x00\x05four")
		write(5, c.kind, c.text)
		refused(t, name, p, 2, c.want)
		refused(t, name, p, 4, c.want)
	}
	write(5, 2, "\x00\x00")
	if s, e := blob.Read(p, 2); s != "twofour" || e != api.OK {
		t.Error("Read", s, e)
	}
	for _, c := range []struct {
		first int
		want  api.Errno
	}{{-1, api.ErrArg}, {10, api.ErrArg}, {math.MinInt, api.ErrArg}, {math.MaxInt, api.ErrArg}, {0, api.ErrSum}, {1, api.ErrForm}, {9, api.ErrSum}} {
		refused(t, "a first page", p, c.first, c.want)
	}
	d.Fuse(0)
	d.Barrier()
	refused(t, "a disk without power", p, 2, api.ErrDown)
	if !p.Down() {
		t.Error("the pager is not down")
	}
}
