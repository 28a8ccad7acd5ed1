package cow_test

import (
	"maps"
	"math"
	"math/rand/v2"
	"slices"
	"strings"
	"testing"

	"astrolabe/api"
	"astrolabe/cow"
	"astrolabe/disk"
	"astrolabe/node"
	"astrolabe/pager"
)

func newPager(t *testing.T, sectors int) (*disk.Disk, *pager.Pager) {
	t.Helper()
	d, e := disk.New(sectors)
	if e != api.OK {
		t.Fatal("New", e)
	}
	p, e := pager.Format(d)
	if e != api.OK {
		t.Fatal("Format", e)
	}
	return d, p
}

// lay writes a text of kind 3 on a page that is handed out.
func lay(t *testing.T, p *pager.Pager, kind int, text string) int {
	t.Helper()
	n, e := p.Alloc()
	if e != api.OK {
		t.Fatal("Alloc", e)
	}
	if e := p.Write(n, kind, text); e != api.OK {
		t.Fatal("Write", e)
	}
	return n
}

// layNode writes a node.
func layNode(t *testing.T, p *pager.Pager, n node.Node) int {
	t.Helper()
	text, e := node.Encode(n)
	if e != api.OK {
		t.Fatal("Encode", n, e)
	}
	return lay(t, p, 3, text)
}

func leaf(keys ...string) node.Node {
	n := node.Node{Leaf: true, Keys: keys}
	for i := range keys {
		n.Kids = append(n.Kids, 100+i)
	}
	return n
}

func inner(keys []string, kids ...int) node.Node { return node.Node{Keys: keys, Kids: kids} }

// tree is a tree in memory, as the chapter's words build it.
type tree struct {
	leaf bool
	keys []string
	kids []*tree
	vals []int
}

// flat is the node of a tree, with numbers for its kids.
func (x *tree) flat() node.Node {
	n := node.Node{Leaf: x.leaf, Keys: x.keys, Kids: x.vals}
	if !x.leaf {
		n.Kids = make([]int, len(x.kids))
	}
	return n
}

func (x *tree) size() int { return node.Size(x.flat()) }

// place is the place of the kid for a key.
func (x *tree) place(key string) int {
	i := 0
	for i < len(x.keys) && x.keys[i] <= key {
		i++
	}
	return i
}

// split is the tree as one, or as two with a key between.
func (x *tree) split() (a *tree, mid string, b *tree) {
	if x.size() <= 120 {
		return x, "", nil
	}
	h := len(x.keys) / 2
	if x.leaf {
		return &tree{leaf: true, keys: x.keys[:h:h], vals: x.vals[:h:h]}, x.keys[h], &tree{leaf: true, keys: x.keys[h:], vals: x.vals[h:]}
	}
	return &tree{keys: x.keys[:h:h], kids: x.kids[: h+1 : h+1]}, x.keys[h], &tree{keys: x.keys[h+1:], kids: x.kids[h+1:]}
}

func (x *tree) put(key string, val int) (a *tree, mid string, b *tree) {
	y := &tree{leaf: x.leaf, keys: slices.Clone(x.keys), kids: slices.Clone(x.kids), vals: slices.Clone(x.vals)}
	if x.leaf {
		if i, found := slices.BinarySearch(y.keys, key); found {
			y.vals[i] = val
		} else {
			y.keys, y.vals = slices.Insert(y.keys, i, key), slices.Insert(y.vals, i, val)
		}
		return y.split()
	}
	i := x.place(key)
	first, mid, second := x.kids[i].put(key, val)
	y.kids[i] = first
	if second != nil {
		y.keys, y.kids = slices.Insert(y.keys, i, mid), slices.Insert(y.kids, i+1, second)
	}
	return y.split()
}

// put is the root of the tree with that key.
func put(x *tree, key string, val int) *tree {
	if x == nil {
		return &tree{leaf: true, keys: []string{key}, vals: []int{val}}
	}
	a, mid, b := x.put(key, val)
	if b == nil {
		return a
	}
	return &tree{keys: []string{mid}, kids: []*tree{a, b}}
}

// joined is both trees in one, or nil.
func joined(a *tree, mid string, b *tree) *tree {
	if a.leaf != b.leaf {
		return nil
	}
	y := &tree{leaf: a.leaf, keys: slices.Concat(a.keys, b.keys), kids: slices.Concat(a.kids, b.kids), vals: slices.Concat(a.vals, b.vals)}
	if !a.leaf {
		y.keys = slices.Concat(a.keys, []string{mid}, b.keys)
	}
	if y.size() > 120 {
		return nil
	}
	return y
}

func (x *tree) remove(key string) *tree {
	y := &tree{leaf: x.leaf, keys: slices.Clone(x.keys), kids: slices.Clone(x.kids), vals: slices.Clone(x.vals)}
	if x.leaf {
		i := slices.Index(x.keys, key)
		y.keys, y.vals = slices.Delete(y.keys, i, i+1), slices.Delete(y.vals, i, i+1)
		return y
	}
	i := x.place(key)
	kid := x.kids[i].remove(key)
	if len(kid.kids)+len(kid.vals) == 0 {
		y.kids = slices.Delete(y.kids, i, i+1)
		if len(y.keys) > 0 {
			y.keys = slices.Delete(y.keys, max(0, i-1), max(0, i-1)+1)
		}
		return y
	}
	if i > 0 {
		if z := joined(x.kids[i-1], x.keys[i-1], kid); z != nil {
			y.keys, y.kids = slices.Delete(y.keys, i-1, i), slices.Delete(y.kids, i, i+1)
			y.kids[i-1] = z
			return y
		}
	}
	if i < len(x.keys) {
		if z := joined(kid, x.keys[i], x.kids[i+1]); z != nil {
			y.keys, y.kids = slices.Delete(y.keys, i, i+1), slices.Delete(y.kids, i+1, i+2)
			y.kids[i] = z
			return y
		}
	}
	y.kids[i] = kid
	return y
}

// remove is the root of the tree without that key.
func remove(x *tree, key string) *tree {
	y := x.remove(key)
	if len(y.keys) > 0 {
		return y
	}
	if !y.leaf && len(y.kids) > 0 {
		return y.kids[0]
	}
	return nil
}

// alike fails, if the tree on the disk is not that in memory, node by node.
func alike(t *testing.T, p *pager.Pager, page int, x *tree) {
	t.Helper()
	if page == 0 && x == nil {
		return
	}
	if page == 0 || x == nil {
		t.Fatal("one of the trees is empty", page, x)
	}
	kind, text, e := p.Read(page)
	n, e2 := node.Decode(text)
	if kind != 3 || e != api.OK || e2 != api.OK || n.Leaf != x.leaf || !slices.Equal(n.Keys, x.keys) || n.Leaf && !slices.Equal(n.Kids, x.vals) {
		t.Fatal("a node is another one", page, n, e, e2, x)
	}
	for i, kid := range x.kids {
		alike(t, p, n.Kids[i], kid)
	}
}

// count is how many nodes there are.
func (x *tree) count() int {
	if x == nil {
		return 0
	}
	n := 1
	for _, kid := range x.kids {
		n += kid.count()
	}
	return n
}

// fresh is how many nodes of x are not of the tree was.
func fresh(x, was *tree) int {
	old := map[*tree]int{}
	var note func(x *tree)
	note = func(x *tree) {
		if x != nil {
			old[x] = 1
			for _, kid := range x.kids {
				note(kid)
			}
		}
	}
	note(was)
	n := 0
	var see func(x *tree)
	see = func(x *tree) {
		if x != nil && old[x] == 0 {
			n++
			for _, kid := range x.kids {
				see(kid)
			}
		}
	}
	see(x)
	return n
}

// names are the keys that a test uses.
func names(r *rand.Rand, many int) []string {
	l := make([]string, many)
	for i := range l {
		b := make([]byte, 1+r.IntN(16))
		for j := range b {
			b[j] = "abcd\x00\xff"[r.IntN(6)]
		}
		l[i] = string(b)
	}
	return l
}

// P22.1 to P22.3, P22.5: as a map does it, and node by node as the chapter's words build it.
func TestAsModel(t *testing.T) {
	r := rand.New(rand.NewPCG(191, 192))
	for round := range 12 {
		_, p := newPager(t, 1024)
		model, root, keys := map[string]int{}, 0, names(r, 20+40*round/3)
		var x *tree
		for i := range 300 {
			key, kid := keys[r.IntN(len(keys))], 2+r.IntN(510)
			was, before := x, len(p.Fresh())
			if r.IntN(3) < 2-(i/100)%2 {
				next, e := cow.Put(p, root, key, kid)
				if e != api.OK {
					t.Fatal("Put", key, kid, e)
				}
				root, x = next, put(x, key, kid)
				model[key] = kid
			} else {
				_, there := model[key]
				next, e := cow.Delete(p, root, key)
				if there != (e == api.OK) || !there && (e != api.ErrNone || next != 0) {
					t.Fatal("Delete", key, there, next, e)
				}
				if there {
					root, x = next, remove(x, key)
					delete(model, key)
				}
			}
			alike(t, p, root, x)
			if n := len(p.Fresh()) - before; n != fresh(x, was) {
				t.Fatal("pages that were written", n, "want", fresh(x, was))
			}
			check(t, p, root, x, model, keys[r.IntN(len(keys))], keys[r.IntN(len(keys))])
			if len(p.Fresh()) > 300 {
				live, e := cow.Pages(p, root)
				if e != api.OK || p.Commit(0) != api.OK || p.Keep(0, live) != api.OK {
					t.Fatal("Keep", e)
				}
			}
		}
	}
}

// check fails, if what the tree is asked is not what the map says.
func check(t *testing.T, p *pager.Pager, root int, x *tree, model map[string]int, lo, hi string) {
	t.Helper()
	for _, key := range []string{lo, hi} {
		want, there := model[key]
		if kid, e := cow.Get(p, root, key); there && (kid != want || e != api.OK) || !there && (kid != 0 || e != api.ErrNone) {
			t.Error("Get", key, kid, e, want, there)
		}
	}
	for _, span := range [][2]string{{"", ""}, {lo, ""}, {"", hi}, {lo, hi}, {lo + "\x00", hi + "x"}} {
		var want []cow.Entry
		for _, key := range slices.Sorted(maps.Keys(model)) {
			if key >= span[0] && (span[1] == "" || key < span[1]) {
				want = append(want, cow.Entry{Key: key, Kid: model[key]})
			}
		}
		if got, e := cow.Scan(p, root, span[0], span[1]); e != api.OK || !slices.Equal(got, want) {
			t.Errorf("Scan(%q, %q): %v %d, want %v", span[0], span[1], got, e, want)
		}
	}
	if pages, e := cow.Pages(p, root); e != api.OK || len(pages) != x.count() || len(pages) > 0 && pages[0] != root {
		t.Error("Pages", pages, e, x.count())
	}
}

// P22.1: what may not be asked.
func TestArguments(t *testing.T) {
	_, p := newPager(t, 40)
	root, _ := cow.Put(p, 0, "a", 5)
	before := p.Fresh()
	for _, key := range []string{"", strings.Repeat("k", 17), strings.Repeat("k", 1000)} {
		for _, of := range []int{0, root, -1} {
			if kid, e := cow.Get(p, of, key); kid != 0 || e != api.ErrArg {
				t.Error("Get", of, len(key), kid, e)
			}
			if next, e := cow.Put(p, of, key, 5); next != 0 || e != api.ErrArg {
				t.Error("Put", of, len(key), next, e)
			}
			if next, e := cow.Delete(p, of, key); next != 0 || e != api.ErrArg {
				t.Error("Delete", of, len(key), next, e)
			}
		}
	}
	for _, kid := range []int{1, 0, -5, 512, math.MinInt, math.MaxInt} {
		if next, e := cow.Put(p, root, "b", kid); next != 0 || e != api.ErrArg {
			t.Error("Put", kid, next, e)
		}
	}
	if kid, e := cow.Get(p, 0, "a"); kid != 0 || e != api.ErrNone {
		t.Error("Get of root 0", kid, e)
	}
	if next, e := cow.Delete(p, 0, "a"); next != 0 || e != api.ErrNone {
		t.Error("Delete of root 0", next, e)
	}
	if next, e := cow.Delete(p, root, "b"); next != 0 || e != api.ErrNone {
		t.Error("Delete", next, e)
	}
	if !slices.Equal(p.Fresh(), before) {
		t.Error("a page was handed out", p.Fresh())
	}
	if next, e := cow.Delete(p, root, "a"); next != 0 || e != api.OK || !slices.Equal(p.Fresh(), before) {
		t.Error("Delete of the last one", next, e, p.Fresh())
	}
	for _, kid := range []int{2, 511} {
		if _, e := cow.Put(p, root, strings.Repeat("k", 16), kid); e != api.OK {
			t.Error("Put", kid, e)
		}
	}
}

// asked fails, if a call on a root that is no tree has another error.
func asked(t *testing.T, what string, p *pager.Pager, root int, key string, want api.Errno) {
	t.Helper()
	before := p.Fresh()
	if kid, e := cow.Get(p, root, key); kid != 0 || e != want {
		t.Error("Get", what, kid, e, "want", want)
	}
	if next, e := cow.Put(p, root, key, 7); next != 0 || e != want {
		t.Error("Put", what, next, e, "want", want)
	}
	if next, e := cow.Delete(p, root, key); next != 0 || e != want {
		t.Error("Delete", what, next, e, "want", want)
	}
	if l, e := cow.Scan(p, root, "", ""); len(l) != 0 || e != want {
		t.Error("Scan", what, l, e, "want", want)
	}
	if l, e := cow.Pages(p, root); len(l) != 0 || e != want {
		t.Error("Pages", what, l, e, "want", want)
	}
	if !slices.Equal(p.Fresh(), before) {
		t.Error("a page was handed out", what, p.Fresh())
	}
}

// P22.1: pages that are no nodes, and trees that are too deep.
func TestForm(t *testing.T) {
	_, p := newPager(t, 100)
	good := layNode(t, p, leaf("k"))
	empty, _ := p.Alloc()
	wrong := lay(t, p, 2, "\x01\x01k\x00\x05")
	form := lay(t, p, 3, "\x01\x01k\x00\x01")
	for _, c := range []struct {
		root int
		want api.Errno
	}{{-1, api.ErrArg}, {50, api.ErrArg}, {math.MinInt, api.ErrArg}, {math.MaxInt, api.ErrArg}, {0 + 1, api.ErrForm}, {empty, api.ErrSum}, {wrong, api.ErrForm}, {form, api.ErrForm}} {
		asked(t, "a root", p, c.root, "k", c.want)
		if c.root >= 2 && c.root < 50 {
			asked(t, "a kid", p, layNode(t, p, inner([]string{"a"}, good, c.root)), "k", c.want)
		}
	}
	asked(t, "a page that there is not", p, layNode(t, p, inner(nil, 400)), "k", api.ErrArg)
	root := good
	for depth := 2; depth <= 8; depth++ {
		root = layNode(t, p, inner(nil, root))
	}
	if kid, e := cow.Get(p, root, "k"); kid != 100 || e != api.OK {
		t.Error("Get of depth 8", kid, e)
	}
	if l, e := cow.Scan(p, root, "", ""); len(l) != 1 || e != api.OK {
		t.Error("Scan of depth 8", l, e)
	}
	if next, e := cow.Delete(p, root, "k"); next != 0 || e != api.OK {
		t.Error("Delete of depth 8", next, e)
	}
	asked(t, "depth 9", p, layNode(t, p, inner(nil, root)), "k", api.ErrForm)
	deep := empty
	for depth := 1; depth <= 8; depth++ {
		deep = layNode(t, p, inner(nil, deep))
	}
	asked(t, "depth 9, but the pager's error comes first", p, deep, "k", api.ErrSum)
	self, _ := p.Alloc()
	text, _ := node.Encode(inner([]string{"k"}, self, self))
	p.Write(self, 3, text)
	asked(t, "a ring", p, self, "k", api.ErrForm)
}

// P22.1: more pages than one call reads.
func TestManyReads(t *testing.T) {
	_, p := newPager(t, 400)
	empty, _ := p.Alloc()
	keys := func(n int) []string {
		var l []string
		for i := range n {
			l = append(l, string([]byte{'A' + byte(i)}))
		}
		return l
	}
	kids := func(kid, n int) []int { return slices.Repeat([]int{kid}, n) }
	bottom := layNode(t, p, leaf("k"))
	middle := layNode(t, p, inner(keys(22), kids(bottom, 23)...)) // 24 pages
	// 21 times 24 pages, 7 more, and the root: 512 in all.
	root := layNode(t, p, inner(keys(27), append(kids(middle, 21), kids(bottom, 7)...)...))
	if l, e := cow.Pages(p, root); len(l) != 512 || e != api.OK {
		t.Error("Pages", len(l), e)
	}
	if l, e := cow.Scan(p, root, "", ""); len(l) != 21*23+7 || e != api.OK {
		t.Error("Scan", len(l), e)
	}
	for _, last := range []int{bottom, empty, 199} {
		more := layNode(t, p, inner(keys(28), append(kids(middle, 21), bottom, bottom, bottom, bottom, bottom, bottom, bottom, last)...))
		if l, e := cow.Pages(p, more); l != nil || e != api.ErrForm {
			t.Error("Pages: the 513th is not read", last, len(l), e)
		}
		if l, e := cow.Scan(p, more, "", ""); l != nil || e != api.ErrForm {
			t.Error("Scan: the 513th is not read", last, len(l), e)
		}
	}
	fault := layNode(t, p, inner(keys(27), append(kids(middle, 21), bottom, bottom, bottom, bottom, bottom, bottom, empty)...))
	if l, e := cow.Pages(p, fault); l != nil || e != api.ErrSum {
		t.Error("Pages: the 512th is read", len(l), e)
	}
}

// P22.1: just those nodes are read in which there may be such keys.
func TestScanReads(t *testing.T) {
	_, p := newPager(t, 100)
	bad, _ := p.Alloc()
	a, c := layNode(t, p, leaf("a")), layNode(t, p, leaf("c", "d"))
	root := layNode(t, p, inner([]string{"b", "c", "e"}, a, bad, c, bad))
	for _, x := range []struct {
		lo, hi string
		many   int
		want   api.Errno
	}{
		{"", "b", 1, api.OK}, {"a", "b", 1, api.OK}, {"", "a", 0, api.OK}, {"", "ba", 0, api.ErrSum}, {"b", "c", 0, api.ErrSum}, {"bz", "c", 0, api.ErrSum}, {"c", "e", 2, api.OK}, {"d", "e", 1, api.OK}, {"c", "ea", 0, api.ErrSum}, {"c", "", 0, api.ErrSum}, {"e", "", 0, api.ErrSum},
		{"d", "a", 0, api.OK}, {"e", "b", 0, api.ErrSum}, {"zzzzzzzzzzzzzzzzzzzzz", "b", 0, api.OK}, {"b", "b", 0, api.OK},
	} {
		if x.lo == "e" && x.hi == "b" { // of the last kid the key ahead is not below b: nothing is read
			x.want = api.OK
		}
		l, e := cow.Scan(p, root, x.lo, x.hi)
		if len(l) != x.many || e != x.want {
			t.Errorf("Scan(%q, %q): %v %d", x.lo, x.hi, l, e)
		}
	}
}

// P22.2, P22.4: with an error pages are fresh no more.
func TestFull(t *testing.T) {
	long := func(i int) string { return string([]byte{'a' + byte(i)}) + strings.Repeat("x", 15) }
	for free := range 5 {
		_, p := newPager(t, 40)
		root := layNode(t, p, leaf(long(0), long(1), long(2), long(3), long(4), long(5)))
		p.Commit(root)
		for len(p.Fresh()) < 17-free {
			p.Alloc()
		}
		before := p.Fresh()
		// A seventh key needs both parts of the leaf, and a root over them; else one page will do.
		for key, need := range map[string]int{long(6): 3, long(3): 1} {
			next, e := cow.Put(p, root, key, 9)
			if free >= need && e != api.OK || free < need && (next != 0 || e != api.ErrFull || !slices.Equal(p.Fresh(), before)) {
				t.Error("Put", free, key, next, e, p.Fresh())
			}
			p.Back(len(before))
		}
		next, e := cow.Delete(p, root, long(2))
		if free >= 1 && e != api.OK || free < 1 && (next != 0 || e != api.ErrFull || !slices.Equal(p.Fresh(), before)) {
			t.Error("Delete", free, next, e, p.Fresh())
		}
		if kid, e := cow.Get(p, root, long(2)); kid != 102 || e != api.OK {
			t.Error("Get", kid, e)
		}
	}
}

// P22.4: without power.
func TestDown(t *testing.T) {
	for fuse := range 4 {
		d, p := newPager(t, 40)
		root, _ := cow.Put(p, 0, "a", 5)
		p.Commit(root)
		mine, _ := p.Alloc()
		d.Fuse(fuse)
		next, e := cow.Put(p, root, "b", 5)
		if fuse < 2 && (next != 0 || e != api.ErrDown || !p.Down() || !slices.Equal(p.Fresh(), []int{mine})) || fuse >= 2 && e != api.OK {
			t.Error("Put", fuse, next, e, p.Fresh())
		}
		if fuse < 2 {
			asked(t, "down", p, root, "a", api.ErrDown)
		}
	}
}

// P22.2, P22.3: of trees that nobody has built a node that is not right is not written.
func TestWildTrees(t *testing.T) {
	_, p := newPager(t, 200)
	a, b := layNode(t, p, leaf("m", "z")), layNode(t, p, leaf("a", "n")) // the second one's keys are not above the first one's
	root := layNode(t, p, inner([]string{"n"}, a, b))
	before := p.Fresh()
	if next, e := cow.Delete(p, root, "n"); next != 0 || e != api.ErrForm || !slices.Equal(p.Fresh(), before) {
		t.Error("Delete to a node that is not right", next, e, p.Fresh())
	}
	// A leaf and another node beside each other are not joined.
	c := layNode(t, p, inner(nil, layNode(t, p, leaf("a"))))
	root = layNode(t, p, inner([]string{"m"}, c, layNode(t, p, leaf("m", "o"))))
	next, e := cow.Delete(p, root, "o")
	if kid, e2 := cow.Get(p, next, "m"); e != api.OK || e2 != api.OK || kid != 100 {
		t.Error("Delete beside another kind", next, e, kid, e2)
	}
	if l, e := cow.Pages(p, next); len(l) != 4 || e != api.OK || l[1] != c {
		t.Error("Pages", l, e)
	}
	// A node without keys whose only kid goes is left out too.
	root = layNode(t, p, inner([]string{"m"}, c, layNode(t, p, leaf("m", "o"))))
	next, e = cow.Delete(p, root, "a")
	if l, e2 := cow.Scan(p, next, "", ""); e != api.OK || e2 != api.OK || len(l) != 2 {
		t.Error("Delete of the only kid", next, e, l, e2)
	}
	if l, _ := cow.Pages(p, next); len(l) != 1 {
		t.Error("the only kid that is left is the root", l)
	}
	root = layNode(t, p, inner(nil, layNode(t, p, inner(nil, layNode(t, p, leaf("a"))))))
	if next, e := cow.Delete(p, root, "a"); next != 0 || e != api.OK {
		t.Error("Delete of all", next, e)
	}
	root = layNode(t, p, inner(nil, layNode(t, p, inner(nil, layNode(t, p, leaf("a", "b"))))))
	next, e = cow.Delete(p, root, "a")
	if l, _ := cow.Pages(p, next); e != api.OK || len(l) != 2 {
		t.Error("a root without keys gives way to its only kid, which may be one too", l, e)
	}
}

// P22.3: which sibling is read, and that the second one is read only if the first one has no room.
func TestSiblings(t *testing.T) {
	_, p := newPager(t, 200)
	bad, _ := p.Alloc()
	full := leaf("a"+strings.Repeat("x", 15), "b"+strings.Repeat("x", 15), "c"+strings.Repeat("x", 15), "d"+strings.Repeat("x", 15), "e"+strings.Repeat("x", 15), "f"+strings.Repeat("x", 15))
	small, kid := layNode(t, p, leaf("g")), layNode(t, p, leaf("mmmm", "n"))
	for name, c := range map[string]struct {
		left, right int
		want        api.Errno
	}{
		"left has room": {small, bad, api.OK}, "left is none": {bad, small, api.ErrSum}, "left is full, right is none": {layNode(t, p, full), bad, api.ErrSum}, "left is full": {layNode(t, p, full), layNode(t, p, leaf("s")), api.OK},
	} {
		root := layNode(t, p, inner([]string{"m", "s"}, c.left, kid, c.right))
		before := len(p.Fresh())
		next, e := cow.Delete(p, root, "n")
		if e != c.want || e != api.OK && (next != 0 || len(p.Fresh()) != before) || e == api.OK && len(p.Fresh()) != before+2 {
			t.Error(name, next, e, len(p.Fresh())-before)
		}
	}
	// A sibling that is 8 deep is not too deep.
	deep := layNode(t, p, inner([]string{"m"}, small, kid))
	for range 6 {
		deep = layNode(t, p, inner(nil, deep))
	}
	next, e := cow.Delete(p, deep, "n")
	if l, e2 := cow.Scan(p, next, "", ""); e != api.OK || e2 != api.OK || len(l) != 2 {
		t.Error("Delete of depth 8", next, e, l, e2)
	}
	// Get and Put read just the way down.
	root := layNode(t, p, inner([]string{"m", "s"}, bad, kid, bad))
	if kid, e := cow.Get(p, root, "n"); kid != 101 || e != api.OK {
		t.Error("Get", kid, e)
	}
	if _, e := cow.Put(p, root, "o", 5); e != api.OK {
		t.Error("Put", e)
	}
}

// P22.5: what was a root stays one.
func TestOldRoots(t *testing.T) {
	r := rand.New(rand.NewPCG(193, 194))
	_, p := newPager(t, 1024)
	type version struct {
		root  int
		model map[string]int
	}
	var versions []version
	root, model := 0, map[string]int{}
	for i, key := range names(r, 60) {
		var e api.Errno
		if root, e = cow.Put(p, root, key, 2+i); e != api.OK {
			t.Fatal("Put", e)
		}
		model[key] = 2 + i
		if i%7 == 3 {
			for old := range model {
				if root, e = cow.Delete(p, root, old); e != api.OK {
					t.Fatal("Delete", e)
				}
				delete(model, old)
				break
			}
		}
		versions = append(versions, version{root, maps.Clone(model)})
	}
	for _, v := range versions {
		l, e := cow.Scan(p, v.root, "", "")
		if e != api.OK || len(l) != len(v.model) {
			t.Error("Scan", len(l), len(v.model), e)
		}
		for _, entry := range l {
			if v.model[entry.Key] != entry.Kid {
				t.Error("an old root has changed", entry)
			}
		}
	}
}
