package cat_test

import (
	"math"
	"math/rand/v2"
	"slices"
	"strings"
	"testing"

	"astrolabe/api"
	"astrolabe/blob"
	"astrolabe/cat"
	"astrolabe/disk"
	"astrolabe/pager"
)

func list(next int, l ...cat.Version) cat.List { return cat.List{Next: next, L: l} }

func equal(a, b cat.List) bool { return a.Next == b.Next && slices.Equal(a.L, b.L) }

// many is a list of n versions.
func many(n int) cat.List {
	c := cat.List{Next: n + 1}
	for i := range n {
		c.L = append(c.L, cat.Version{Number: i + 1, Root: 2 + i})
	}
	return c
}

// wrong are lists that are not right.
func wrong() []cat.List {
	return []cat.List{
		{}, list(-1), list(math.MinInt), list(1<<24 + 1), list(math.MaxInt), many(13), list(1<<24+1, cat.Version{1, 2}),
		list(5, cat.Version{0, 2}), list(5, cat.Version{-1, 2}), list(5, cat.Version{5, 2}), list(5, cat.Version{6, 2}), list(5, cat.Version{2, 2}, cat.Version{2, 3}), list(5, cat.Version{3, 2}, cat.Version{2, 3}), list(1, cat.Version{1, 2}),
		list(5, cat.Version{1, 1}), list(5, cat.Version{1, -1}), list(5, cat.Version{1, 512}), list(5, cat.Version{1, math.MaxInt}), list(5, cat.Version{math.MinInt, 2}), list(5, cat.Version{1, 2}, cat.Version{2, 1}),
	}
}

// good are lists that are right, with their bytes.
func good() map[string]cat.List {
	return map[string]cat.List{
		"\x00\x00\x00\x01":                         list(1),
		"\x01\x00\x00\x00":                         list(1 << 24),
		"\x00\x00\x00\x02\x00\x00\x00\x01\x01\xff": list(2, cat.Version{1, 511}),
		"\x00\x01\x02\x03\x00\x00\x00\x05\x00\x00\x00\x01\x02\x02\x00\x02": list(0x010203, cat.Version{5, 0}, cat.Version{0x010202, 2}),
		"\x01\x00\x00\x00\x00\xff\xff\xff\x01\x2c":                         list(1<<24, cat.Version{1<<24 - 1, 300}),
	}
}

// P23.1
func TestRightEncode(t *testing.T) {
	for want, c := range good() {
		if s, e := cat.Encode(c); !cat.Right(c) || s != want || e != api.OK {
			t.Errorf("Encode(%v): %q %d", c, s, e)
		}
		if got, e := cat.Decode(want); !equal(got, c) || e != api.OK {
			t.Errorf("Decode(%q): %v %d", want, got, e)
		}
	}
	if s, e := cat.Encode(many(12)); !cat.Right(many(12)) || len(s) != 76 || e != api.OK {
		t.Error("Encode of 12 versions", len(s), e)
	}
	for _, c := range wrong() {
		if s, e := cat.Encode(c); cat.Right(c) || s != "" || e != api.ErrArg {
			t.Errorf("Encode(%v): %q %d", c, s, e)
		}
	}
}

// P23.1
func TestDecode(t *testing.T) {
	one := "\x00\x00\x00\x09"
	for _, s := range []string{
		"", "\x00", "\x00\x00\x01", "\x00\x00\x00\x00", "\x01\x00\x00\x01", "\xff\xff\xff\xff", one + "\x00", one + "\x00\x00\x00\x01\x00", one + "\x00\x00\x00\x01\x00\x02\x00",
		one + "\x00\x00\x00\x00\x00\x02", one + "\x00\x00\x00\x09\x00\x02", one + "\x00\x00\x00\x01\x00\x01", one + "\x00\x00\x00\x01\x02\x00", one + "\x00\x00\x00\x02\x00\x02\x00\x00\x00\x01\x00\x02", one + "\x00\x00\x00\x02\x00\x02\x00\x00\x00\x02\x00\x02",
		strings.Repeat("\x00", 10), strings.Repeat("\xff", 6000),
	} {
		if c, e := cat.Decode(s); !equal(c, cat.List{}) || c.L != nil || e != api.ErrForm {
			t.Errorf("Decode(%.40q): %v %d", s, c, e)
		}
	}
	thirteen := "\x00\x00\x00\x20"
	for i := range 13 {
		thirteen += "\x00\x00\x00" + string([]byte{byte(i + 1)}) + "\x00\x02"
	}
	if c, e := cat.Decode(thirteen); e != api.ErrForm || !equal(c, cat.List{}) {
		t.Error("Decode of 13 versions", c, e)
	}
	if c, e := cat.Decode(thirteen[:76]); e != api.OK || len(c.L) != 12 {
		t.Error("Decode of 12 versions", c, e)
	}
}

// P23.1
func TestFind(t *testing.T) {
	c := list(9, cat.Version{2, 0}, cat.Version{5, 7}, cat.Version{6, 7})
	for _, x := range []struct {
		number, want int
		ok           bool
	}{{0, 2, true}, {2, 0, true}, {5, 1, true}, {6, 2, true}, {1, 0, false}, {3, 0, false}, {9, 0, false}, {-1, 0, false}, {math.MinInt, 0, false}, {math.MaxInt, 0, false}} {
		if i, ok := cat.Find(c, x.number); i != x.want || ok != x.ok {
			t.Error("Find", x.number, i, ok)
		}
	}
	if i, ok := cat.Find(list(1), 0); i != 0 || ok {
		t.Error("Find of none", i, ok)
	}
	twice := list(9, cat.Version{0, 2}, cat.Version{7, 2}, cat.Version{7, 3}, cat.Version{-4, 3})
	for number, want := range map[int]int{7: 1, -4: 3, 0: 3} {
		if i, ok := cat.Find(twice, number); i != want || !ok {
			t.Error("Find of a list that is not right", number, i, ok)
		}
	}
}

// P23.1
func TestWith(t *testing.T) {
	c := list(9, cat.Version{2, 0}, cat.Version{5, 7})
	c.L = c.L[:2:2]
	for _, root := range []int{0, 2, 511} {
		if got, ok := cat.With(c, root); !ok || !equal(got, list(10, cat.Version{2, 0}, cat.Version{5, 7}, cat.Version{9, root})) {
			t.Error("With", root, got, ok)
		}
	}
	for _, root := range []int{1, -1, 512, math.MinInt, math.MaxInt} {
		if got, ok := cat.With(c, root); ok || !equal(got, cat.List{}) {
			t.Error("With", root, got, ok)
		}
	}
	if got, ok := cat.With(list(1), 0); !ok || !equal(got, list(2, cat.Version{1, 0})) {
		t.Error("With the first one", got, ok)
	}
	if got, ok := cat.With(many(11), 3); !ok || len(got.L) != 12 {
		t.Error("With the twelfth", got, ok)
	}
	if got, ok := cat.With(list(1<<24-1), 3); !ok || !equal(got, list(1<<24, cat.Version{1<<24 - 1, 3})) {
		t.Error("With the last number", got, ok)
	}
	for _, c := range append(wrong(), many(12), list(1<<24), list(1<<24, cat.Version{3, 3})) {
		if got, ok := cat.With(c, 5); ok || !equal(got, cat.List{}) {
			t.Error("With", c, got, ok)
		}
	}
}

// P23.1
func TestWithout(t *testing.T) {
	c := list(9, cat.Version{2, 0}, cat.Version{5, 7}, cat.Version{6, 8})
	if got, ok := cat.Without(c, 2); !ok || !equal(got, list(9, cat.Version{5, 7}, cat.Version{6, 8})) {
		t.Error("Without the first", got, ok)
	}
	if got, ok := cat.Without(c, 5); !ok || !equal(got, list(9, cat.Version{2, 0}, cat.Version{6, 8})) {
		t.Error("Without one between", got, ok)
	}
	for _, number := range []int{6, 0, 1, 3, 9, -1, math.MinInt, math.MaxInt} {
		if got, ok := cat.Without(c, number); ok || !equal(got, cat.List{}) {
			t.Error("Without", number, got, ok)
		}
	}
	for _, c := range append(wrong(), list(1)) {
		for number := -1; number < 4; number++ {
			if got, ok := cat.Without(c, number); ok || !equal(got, cat.List{}) {
				t.Error("Without", c, number, got, ok)
			}
		}
	}
}

// P3: what is answered shares nothing with the list.
func TestNewMemory(t *testing.T) {
	c := many(5)
	c.L = append(c.L, cat.Version{6, 6}, cat.Version{7, 7})[:5]
	c.Next = 9
	keep := slices.Clone(c.L[:7])
	with, _ := cat.With(c, 9)
	without, _ := cat.Without(c, 1)
	between, _ := cat.Without(c, 3)
	for _, l := range []cat.List{with, without, between} {
		for i := range l.L[:cap(l.L)] {
			l.L[:cap(l.L)][i] = cat.Version{77, 77}
		}
	}
	if !slices.Equal(c.L[:7], keep) {
		t.Error("the list was written into", c.L[:7])
	}
}

func newPager(t *testing.T) (*disk.Disk, *pager.Pager) {
	t.Helper()
	d, e := disk.New(40)
	if e != api.OK {
		t.Fatal("New", e)
	}
	p, e := pager.Format(d)
	if e != api.OK {
		t.Fatal("Format", e)
	}
	return d, p
}

// P23.2, P23.3
func TestLoadSave(t *testing.T) {
	r := rand.New(rand.NewPCG(201, 202))
	d, p := newPager(t)
	if c, e := cat.Load(p); !equal(c, list(1)) || e != api.OK {
		t.Error("Load of nothing", c, e)
	}
	for i := range 12 {
		c := many(i)
		c.Next += r.IntN(100)
		first, e := cat.Save(p, c)
		if e != api.OK || !slices.Equal(p.Fresh(), []int{first}) {
			t.Fatal("Save", first, e)
		}
		want, _ := cat.Encode(c)
		if s, e := blob.Read(p, first); s != want || e != api.OK {
			t.Error("what was saved", s, e)
		}
		if e := p.Commit(first); e != api.OK {
			t.Fatal("Commit", e)
		}
		if got, e := cat.Load(p); !equal(got, c) || e != api.OK {
			t.Error("Load", got, e)
		}
		again, e := pager.Open(d)
		if e != api.OK {
			t.Fatal("Open", e)
		}
		if got, e := cat.Load(again); !equal(got, c) || e != api.OK {
			t.Error("Load of what was opened", got, e)
		}
	}
}

// P23.2: the first error.
func TestLoadSaveErrors(t *testing.T) {
	d, p := newPager(t)
	for _, c := range wrong() {
		if first, e := cat.Save(p, c); first != 0 || e != api.ErrArg || len(p.Fresh()) != 0 {
			t.Error("Save", c, first, e)
		}
	}
	for _, x := range []struct {
		kind int
		text string
		want api.Errno
	}{{3, "\x00\x00\x00\x00\x00\x01", api.ErrForm}, {2, "\x00\x00\x00\x00\x00", api.ErrForm}, {2, "\x00\x00\x00\x00\x00\x00", api.ErrForm}, {2, "\x00\x01\x00\x00\x00\x01", api.ErrForm}, {0, "", api.ErrSum}} {
		n, _ := p.Alloc()
		if x.kind > 0 {
			p.Write(n, x.kind, x.text)
		}
		p.Commit(n)
		if c, e := cat.Load(p); !equal(c, cat.List{}) || e != x.want {
			t.Error("Load", x, c, e)
		}
	}
	for range 13 {
		p.Alloc()
	}
	if first, e := cat.Save(p, list(1)); first != 0 || e != api.ErrFull || len(p.Fresh()) != 13 {
		t.Error("Save on a full disk", first, e)
	}
	p.Back(0)
	d.Fuse(1)
	if first, e := cat.Save(p, list(1)); first != 0 || e != api.ErrDown || len(p.Fresh()) != 0 {
		t.Error("Save without power", first, e)
	}
	if first, e := cat.Save(p, list(0)); first != 0 || e != api.ErrArg {
		t.Error("Save: its own error comes first", first, e)
	}
	if c, e := cat.Load(p); !equal(c, cat.List{}) || e != api.ErrDown {
		t.Error("Load without power", c, e)
	}
}
