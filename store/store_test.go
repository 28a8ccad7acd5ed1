package store_test

import (
	"maps"
	"math"
	"math/rand/v2"
	"slices"
	"strings"
	"testing"

	"astrolabe/api"
	"astrolabe/blob"
	"astrolabe/cat"
	"astrolabe/cheb"
	"astrolabe/cow"
	"astrolabe/disk"
	"astrolabe/dyad"
	"astrolabe/fun"
	"astrolabe/iv"
	"astrolabe/pager"
	"astrolabe/store"
	"astrolabe/tabc"
	"astrolabe/zint"
)

// num is m times 2^e, not looked at.
func num(m, e int) api.Dy { return api.Dy{M: zint.From(m), E: e} }

func same(x, y api.Dy) bool {
	return x.E == y.E && x.M.Neg == y.M.Neg && slices.Equal(x.M.Mag, y.M.Mag)
}

func equal(a, b api.Iv) bool { return same(a.Lo, b.Lo) && same(a.Hi, b.Hi) }

// table is a small right table that tells itself by n; those of a greater n are longer.
func table(n int) api.Table {
	t := api.Table{Fun: api.Atan, A: num(1, 0), Prec: 4 + n%20, Degree: 1 + n%16}
	p := api.Piece{A: num(1, 0), Err: num(2*n+1, -40)}
	for i := range t.Degree + 1 {
		p.C = append(p.C, num(2*(n+i)+1, -30))
	}
	t.Pieces = []api.Piece{p}
	return t
}

func text(t *testing.T, tab api.Table) string {
	t.Helper()
	s, e := tabc.Encode(tab)
	if e != api.OK {
		t.Fatal("Encode", e)
	}
	return s
}

func newDisk(t *testing.T, sectors int) *disk.Disk {
	t.Helper()
	d, e := disk.New(sectors)
	if e != api.OK {
		t.Fatal("New", e)
	}
	return d
}

func format(t *testing.T, sectors int) (*disk.Disk, *store.Store) {
	t.Helper()
	d := newDisk(t, sectors)
	s, e := store.Format(d)
	if e != api.OK || s == nil {
		t.Fatal("Format", e)
	}
	return d, s
}

// ok fails, if there is an error.
func ok(t *testing.T, what string, e api.Errno) {
	t.Helper()
	if e != api.OK {
		t.Fatal(what, e)
	}
}

// commit puts tables under names into a new version.
func commit(t *testing.T, s *store.Store, tables map[string]api.Table) int {
	t.Helper()
	ok(t, "Begin", s.Begin())
	for _, name := range slices.Sorted(maps.Keys(tables)) {
		ok(t, "Put", s.Put(name, tables[name]))
	}
	version, e := s.Commit()
	ok(t, "Commit", e)
	return version
}

// shot is all that a store's versions show: of each version's number the names with their tables as bytes.
func shot(t *testing.T, s *store.Store) map[int]map[string]string {
	t.Helper()
	all := map[int]map[string]string{}
	for _, v := range s.Versions() {
		names, e := s.Names(v)
		ok(t, "Names", e)
		all[v] = map[string]string{}
		for _, name := range names {
			tab, e := s.Table(v, name)
			ok(t, "Table", e)
			all[v][name] = text(t, tab)
		}
	}
	return all
}

func alike(a, b map[int]map[string]string) bool {
	return maps.EqualFunc(a, b, func(x, y map[string]string) bool { return maps.Equal(x, y) })
}

// P24.1
func TestFormatOpen(t *testing.T) {
	for _, n := range []int{1, 7} {
		if s, e := store.Format(newDisk(t, n)); s != nil || e != api.ErrArg {
			t.Error("Format", n, e)
		}
		if s, e := store.Open(newDisk(t, n)); s != nil || e != api.ErrArg {
			t.Error("Open", n, e)
		}
	}
	d, s := format(t, 8)
	if len(s.Versions()) != 0 || s.Busy() || s.Down() || !slices.Equal(s.Used(), []int{0, 1}) || len(s.Fresh()) != 0 {
		t.Error("Format", s.Versions(), s.Busy(), s.Down(), s.Used(), s.Fresh())
	}
	if s, e := store.Open(d); e != api.OK || len(s.Versions()) != 0 || s.Busy() {
		t.Error("Open", e)
	}
	if s, e := store.Open(newDisk(t, 8)); s != nil || e != api.ErrNone {
		t.Error("Open of nothing", e)
	}
	p, _ := pager.Open(d)
	n, _ := p.Alloc()
	p.Write(n, 2, "\x00\x00no list")
	p.Commit(n)
	if s, e := store.Open(d); s != nil || e != api.ErrForm {
		t.Error("Open of no list", e)
	}
	d.Fuse(0)
	if s, e := store.Format(d); s != nil || e != api.ErrDown {
		t.Error("Format without power", e)
	}
	if s, e := store.Open(d); s != nil || e != api.ErrDown {
		t.Error("Open without power", e)
	}
}

// P24.1: what asks for a transaction, and what for none.
func TestStates(t *testing.T) {
	_, s := format(t, 100)
	commit(t, s, map[string]api.Table{"a": table(1)})
	commit(t, s, nil)
	long := strings.Repeat("x", 17)
	for _, name := range []string{"a", "", long} {
		if used, e := s.Build(name, api.Sin, 0, api.Dy{}, -2, 8, 3, 9); used != 0 || e != api.ErrState {
			t.Error("Build", used, e)
		}
		if used, e := s.Upgrade(name, 48, 3, 9); used != 0 || e != api.ErrState {
			t.Error("Upgrade", used, e)
		}
		if e := s.Put(name, api.Table{}); e != api.ErrState {
			t.Error("Put", e)
		}
		if e := s.Drop(name); e != api.ErrState {
			t.Error("Drop", e)
		}
	}
	if v, e := s.Commit(); v != 0 || e != api.ErrState {
		t.Error("Commit", v, e)
	}
	if e := s.Abort(); e != api.ErrState {
		t.Error("Abort", e)
	}
	ok(t, "Begin", s.Begin())
	if e := s.Begin(); e != api.ErrState || !s.Busy() {
		t.Error("Begin", e)
	}
	for _, v := range []int{1, 2, 0, 9} {
		if e := s.Prune(v); e != api.ErrState {
			t.Error("Prune", v, e)
		}
	}
	if n, e := s.Gc(); n != 0 || e != api.ErrState {
		t.Error("Gc", n, e)
	}
	ok(t, "Abort", s.Abort())
	if s.Busy() {
		t.Error("Busy")
	}
}

// P24.2
func TestPutDrop(t *testing.T) {
	_, s := format(t, 200)
	ok(t, "Begin", s.Begin())
	for _, name := range []string{"", strings.Repeat("x", 17), strings.Repeat("x", 1000)} {
		if e := s.Put(name, table(1)); e != api.ErrArg {
			t.Error("Put", len(name), e)
		}
		if e := s.Drop(name); e != api.ErrArg {
			t.Error("Drop", len(name), e)
		}
		if used, e := s.Build(name, api.Gamma, 0, num(1, 0), 0, 8, 3, 0); used != 0 || e != api.ErrArg {
			t.Error("Build", len(name), used, e)
		}
		if used, e := s.Upgrade(name, 48, 3, 9); used != 0 || e != api.ErrArg {
			t.Error("Upgrade", len(name), used, e)
		}
	}
	far := table(1)
	far.Pieces[0].C[0] = num(1, 65536)
	for _, tab := range []api.Table{{}, far} {
		if e := s.Put("a", tab); e != api.ErrArg {
			t.Error("Put of no table", e)
		}
	}
	if e := s.Drop("a"); e != api.ErrNone {
		t.Error("Drop of nothing", e)
	}
	if len(s.Fresh()) != 0 {
		t.Error("a page was handed out", s.Fresh())
	}
	sixteen := strings.Repeat("\xff", 16)
	ok(t, "Put", s.Put("a", table(1)))
	ok(t, "Put", s.Put(sixteen, table(2)))
	ok(t, "Put", s.Put("a", table(3)))
	ok(t, "Put", s.Put("\x00", table(4)))
	ok(t, "Drop", s.Drop("\x00"))
	if e := s.Drop("\x00"); e != api.ErrNone {
		t.Error("Drop twice", e)
	}
	if _, e := s.Table(0, "a"); e != api.ErrNone {
		t.Error("a transaction is seen", e)
	}
	if v, e := s.Commit(); v != 1 || e != api.OK || s.Busy() || len(s.Fresh()) != 0 {
		t.Error("Commit", v, e, s.Busy(), s.Fresh())
	}
	want := map[int]map[string]string{1: {"a": text(t, table(3)), sixteen: text(t, table(2))}}
	if got := shot(t, s); !alike(got, want) {
		t.Error("the version", got)
	}
}

// P24.2
func TestBuildUpgrade(t *testing.T) {
	_, s := format(t, 400)
	ok(t, "Begin", s.Begin())
	want, wantUsed, e := cheb.Build(api.Bessel, 2, num(-1, 0), 1, 12, 4, 20)
	ok(t, "the table", e)
	if used, e := s.Build("j", api.Bessel, 2, num(-1, 0), 1, 12, 4, 20); used != wantUsed || e != api.OK {
		t.Error("Build", used, e)
	}
	before := s.Fresh()
	for _, c := range []struct {
		f, n, p, fuel, used int
		want                api.Errno
	}{{0, 0, 12, 9, 0, api.ErrArg}, {api.Gamma, 0, 12, 9, 0, api.ErrDomain}, {api.Bessel, 2, 40, 2, 2, api.ErrFuel}, {api.Sin, 0, 12, 0, 0, api.ErrFuel}, {api.Sin, 0, 3, 9, 0, api.ErrArg}, {api.Sin, 0, 12, -1, 0, api.ErrArg}} {
		if used, e := s.Build("j", c.f, c.n, num(1, 0), 1, c.p, 4, c.fuel); used != c.used || e != c.want {
			t.Error("Build", c, used, e)
		}
	}
	for _, c := range []struct {
		name          string
		p, fuel, used int
		want          api.Errno
	}{{"k", 20, 40, 0, api.ErrNone}, {"j", 12, 40, 0, api.ErrArg}, {"j", 11, 40, 0, api.ErrArg}, {"j", math.MinInt, 40, 0, api.ErrArg}, {"j", 49, 40, 0, api.ErrArg}, {"j", 13, -1, 0, api.ErrArg}, {"j", 40, 1, 1, api.ErrFuel}} {
		if used, e := s.Upgrade(c.name, c.p, 4, c.fuel); used != c.used || e != c.want {
			t.Error("Upgrade", c, used, e)
		}
	}
	if !slices.Equal(s.Fresh(), before) {
		t.Error("a page was handed out", s.Fresh(), before)
	}
	_, e = s.Commit()
	ok(t, "Commit", e)
	if got, e := s.Table(1, "j"); e != api.OK || text(t, got) != text(t, want) {
		t.Error("Table", got, e)
	}
	ok(t, "Begin", s.Begin())
	better, betterUsed, _ := cheb.Build(api.Bessel, 2, num(-1, 0), 1, 20, 6, 40)
	if used, e := s.Upgrade("j", 20, 6, 40); used != betterUsed || e != api.OK {
		t.Error("Upgrade", used, e)
	}
	if used, e := s.Upgrade("j", 20, 6, 40); used != 0 || e != api.ErrArg {
		t.Error("Upgrade of the transaction's own table", used, e)
	}
	_, e = s.Commit()
	ok(t, "Commit", e)
	if got, e := s.Table(0, "j"); e != api.OK || text(t, got) != text(t, better) {
		t.Error("Table", got, e)
	}
	if got, e := s.Table(1, "j"); e != api.OK || text(t, got) != text(t, want) {
		t.Error("Table of the version ahead", got, e)
	}
}

// P24.3: with an error nothing has changed; the fuel is told.
func TestFull(t *testing.T) {
	_, s := format(t, 30)
	first := commit(t, s, map[string]api.Table{"a": table(1), "z": table(0)})
	before := shot(t, s)
	ok(t, "Begin", s.Begin())
	_, needed, _ := cheb.Build(api.Sin, 0, num(-1, 0), 1, 20, 8, 20)
	var fresh []int
	for i := 0; ; i++ {
		fresh = s.Fresh()
		if e := s.Put("b", table(15)); e != api.OK { // of 17 numbers: more than a page
			if e != api.ErrFull || i == 0 {
				t.Fatal("Put", i, e)
			}
			break
		}
	}
	if !slices.Equal(s.Fresh(), fresh) {
		t.Error("Put leaves pages", s.Fresh(), fresh)
	}
	if used, e := s.Build("c", api.Sin, 0, num(-1, 0), 1, 20, 8, 20); used != needed || e != api.ErrFull || !slices.Equal(s.Fresh(), fresh) {
		t.Error("Build", used, e, s.Fresh())
	}
	for free := 15 - len(s.Used()) - len(fresh); free > 0; free = 15 - len(s.Used()) - len(s.Fresh()) {
		if free > 1 {
			ok(t, "Put", s.Put("a", table(0))) // a page for the table, and one for the tree
		} else {
			ok(t, "Drop", s.Drop("b"))
		}
	}
	fresh = s.Fresh()
	if e := s.Drop("a"); e != api.ErrFull || !slices.Equal(s.Fresh(), fresh) {
		t.Error("Drop", e, s.Fresh())
	}
	if v, e := s.Commit(); v != 0 || e != api.ErrFull || !slices.Equal(s.Fresh(), fresh) || !s.Busy() {
		t.Error("Commit", v, e, s.Fresh(), s.Busy())
	}
	if got := shot(t, s); !alike(got, before) {
		t.Error("a version has changed", got)
	}
	ok(t, "Abort", s.Abort())
	if len(s.Fresh()) != 0 || !slices.Equal(s.Versions(), []int{first}) {
		t.Error("Abort", s.Fresh(), s.Versions())
	}
	if v := commit(t, s, map[string]api.Table{"b": table(2)}); v != first+1 {
		t.Error("Commit behind Abort", v)
	}
}

// P24.3: versions' numbers; not more than there may be.
func TestVersions(t *testing.T) {
	_, s := format(t, 400)
	for i := range 12 {
		if v := commit(t, s, map[string]api.Table{"a": table(i)}); v != i+1 {
			t.Error("Commit", i, v)
		}
	}
	ok(t, "Begin", s.Begin())
	ok(t, "Put", s.Put("b", table(9)))
	fresh := s.Fresh()
	if v, e := s.Commit(); v != 0 || e != api.ErrFull || !s.Busy() || !slices.Equal(s.Fresh(), fresh) {
		t.Error("Commit of the thirteenth", v, e, s.Busy(), s.Fresh())
	}
	ok(t, "Abort", s.Abort())
	for _, v := range []int{0, 12, 13, -1, math.MinInt, math.MaxInt} {
		if e := s.Prune(v); e != api.ErrNone {
			t.Error("Prune", v, e)
		}
	}
	ok(t, "Prune", s.Prune(5))
	if e := s.Prune(5); e != api.ErrNone || !slices.Equal(s.Versions(), []int{1, 2, 3, 4, 6, 7, 8, 9, 10, 11, 12}) || len(s.Fresh()) != 0 {
		t.Error("Prune", e, s.Versions(), s.Fresh())
	}
	if v := commit(t, s, nil); v != 13 {
		t.Error("Commit", v)
	}
	if got, e := s.Table(13, "a"); e != api.OK || text(t, got) != text(t, table(11)) {
		t.Error("a transaction begins at the last version", e)
	}
	s.Versions()[0] = 77
	if s.Versions()[0] != 1 {
		t.Error("an answer is the store's own")
	}
	for _, v := range []int{5, 14, -1, math.MinInt, math.MaxInt} {
		if tab, e := s.Table(v, "a"); len(tab.Pieces) != 0 || e != api.ErrNone {
			t.Error("Table", v, e)
		}
		if names, e := s.Names(v); len(names) != 0 || e != api.ErrNone {
			t.Error("Names", v, e)
		}
		if a, e := s.Query(v, "a", num(1, 0)); !equal(a, api.Iv{}) || e != api.ErrNone {
			t.Error("Query", v, e)
		}
		if a, e := s.Query(v, "", num(1, 0)); !equal(a, api.Iv{}) || e != api.ErrArg {
			t.Error("Query: the name comes first", v, e)
		}
	}
}

// P24.4
func TestTableQueryNames(t *testing.T) {
	_, s := format(t, 200)
	for _, v := range []int{0, 1} {
		if _, e := s.Table(v, "a"); e != api.ErrNone {
			t.Error("Table of no version", e)
		}
		if names, e := s.Names(v); names != nil || e != api.ErrNone {
			t.Error("Names of no version", e)
		}
	}
	tables := map[string]api.Table{"b": table(1), "a": table(2), "\xff": table(3), "ab": table(4)}
	commit(t, s, tables)
	commit(t, s, map[string]api.Table{"c": table(5)})
	if names, e := s.Names(1); !slices.Equal(names, []string{"a", "ab", "b", "\xff"}) || e != api.OK {
		t.Error("Names", names, e)
	}
	for _, v := range []int{0, 2} {
		if names, e := s.Names(v); !slices.Equal(names, []string{"a", "ab", "b", "c", "\xff"}) || e != api.OK {
			t.Error("Names", v, names, e)
		}
	}
	for _, name := range []string{"", strings.Repeat("x", 17)} {
		if tab, e := s.Table(1, name); len(tab.Pieces) != 0 || e != api.ErrArg {
			t.Error("Table", name, e)
		}
		if _, e := s.Query(1, name, num(1, 0)); e != api.ErrArg {
			t.Error("Query", name, e)
		}
	}
	if tab, e := s.Table(1, "c"); len(tab.Pieces) != 0 || e != api.ErrNone {
		t.Error("Table", e)
	}
	for name, tab := range tables {
		for _, x := range []api.Dy{num(1, 0), num(3, -1), num(1, 1), num(5, 0), num(2, 0), {}} {
			want, wantE := cheb.Eval(tab, x)
			for _, v := range []int{0, 1, 2} {
				if got, e := s.Query(v, name, x); !equal(got, want) || e != wantE {
					t.Error("Query", v, name, x, got, want, e)
				}
			}
		}
	}
}

// P24.5: what is reached, what is freed.
func TestReachGc(t *testing.T) {
	d, s := format(t, 400)
	if l, e := s.Reach(); len(l) != 0 || e != api.OK {
		t.Error("Reach of nothing", l, e)
	}
	if n, e := s.Gc(); n != 0 || e != api.OK {
		t.Error("Gc of nothing", n, e)
	}
	for i := range 5 {
		tables := map[string]api.Table{}
		for j := range 8 {
			tables[string([]byte{'a' + byte((3*i+j)%17)})+strings.Repeat("x", 13)] = table(i + 5*j)
		}
		commit(t, s, tables)
	}
	ok(t, "Prune", s.Prune(2))
	ok(t, "Prune", s.Prune(4))
	before, used := shot(t, s), s.Used()
	reached, e := s.Reach()
	ok(t, "Reach", e)
	if want := reach(t, d); !slices.Equal(reached, want) || len(reached) >= len(used)-2 {
		t.Error("Reach", reached, want)
	}
	if l, e := s.Reach(); !slices.Equal(s.Used(), used) || !slices.Equal(l, reached) || e != api.OK {
		t.Error("Reach has changed something")
	}
	if n, e := s.Gc(); n != len(used)-2-len(reached) || e != api.OK {
		t.Error("Gc", n, e)
	}
	if want := append([]int{0, 1}, reached...); !slices.Equal(s.Used(), want) || !alike(shot(t, s), before) {
		t.Error("behind Gc", s.Used(), want)
	}
	d.Fuse(0)
	if n, e := s.Gc(); n != 0 || e != api.OK || s.Down() {
		t.Error("Gc of what is clean does nothing", n, e)
	}
	d.Fuse(-1)
	again, e := store.Open(d)
	ok(t, "Open", e)
	if !alike(shot(t, again), before) || !slices.Equal(again.Used(), s.Used()) {
		t.Error("behind Open", again.Used())
	}
	ok(t, "Begin", s.Begin())
	ok(t, "Put", s.Put("zz", table(3)))
	if l, e := s.Reach(); !slices.Equal(l, reached) || e != api.OK {
		t.Error("Reach with a transaction", l, e)
	}
	if bad, e := s.Scrub(); len(bad) != 0 || e != api.OK {
		t.Error("Scrub with a transaction", bad, e)
	}
}

// reach are the pages that are reached, by the calls of the layers.
func reach(t *testing.T, d *disk.Disk) []int {
	t.Helper()
	p, e := pager.Open(d)
	ok(t, "Open", e)
	list, e := cat.Load(p)
	ok(t, "Load", e)
	var l []int
	first := func(n int) {
		pages, e := blob.Pages(p, n)
		ok(t, "Pages", e)
		l = append(l, pages...)
	}
	first(p.Root())
	for _, v := range list.L {
		pages, e := cow.Pages(p, v.Root)
		ok(t, "Pages", e)
		l = append(l, pages...)
		entries, e := cow.Scan(p, v.Root, "", "")
		ok(t, "Scan", e)
		for _, entry := range entries {
			first(entry.Kid)
		}
	}
	slices.Sort(l)
	return slices.Compact(l)
}

// spoil turns a byte of a page on the disk.
func spoil(t *testing.T, d *disk.Disk, page int) {
	t.Helper()
	s, e := d.Read(2 * page)
	ok(t, "Read", e)
	ok(t, "Write", d.Write(2*page, s[:10]+string([]byte{s[10] ^ 1})+s[11:]))
}

// P24.5: pages that can't be read.
func TestScrub(t *testing.T) {
	d, s := format(t, 200)
	commit(t, s, map[string]api.Table{"a": table(15), "b": table(15)})
	ok(t, "Begin", s.Begin())
	ok(t, "Drop", s.Drop("b"))
	_, e := s.Commit()
	ok(t, "Commit", e)
	if bad, e := s.Scrub(); len(bad) != 0 || e != api.OK {
		t.Error("Scrub", bad, e)
	}
	p, _ := pager.Open(d)
	root := p.Root()
	used := s.Used()
	want := []int{2, root, used[len(used)-1]}
	slices.Sort(want)
	want = slices.Compact(want)
	for _, page := range append([]int{0, 1, 90}, want...) {
		spoil(t, d, page)
	}
	if bad, e := s.Scrub(); !slices.Equal(bad, want) || e != api.OK {
		t.Error("Scrub", bad, want, e)
	}
	if l, e := s.Reach(); len(l) != 0 || e != api.ErrSum {
		t.Error("Reach", l, e)
	}
	if n, e := s.Gc(); n != 0 || e != api.ErrSum || !slices.Equal(s.Used(), used) {
		t.Error("Gc", n, e)
	}
	if _, e := s.Table(1, "a"); e != api.ErrSum {
		t.Error("Table", e)
	}
	d.Fuse(0)
	d.Barrier()
	if bad, e := s.Scrub(); len(bad) != 0 || e != api.ErrDown || !s.Down() {
		t.Error("Scrub without power", bad, e)
	}
}

// P24.5: the power goes in Prune, or in Gc.
func TestDownInChanges(t *testing.T) {
	for name, change := range map[string]func(s *store.Store) (int, api.Errno){
		"Prune": func(s *store.Store) (int, api.Errno) { return 0, s.Prune(1) }, "Gc": (*store.Store).Gc,
	} {
		for fuse := range 4 {
			d, s := format(t, 200)
			commit(t, s, map[string]api.Table{"a": table(1)})
			commit(t, s, map[string]api.Table{"a": table(2), "b": table(3)})
			used := s.Used()
			d.Fuse(fuse)
			if n, e := change(s); n != 0 || e != api.ErrDown || !s.Down() || !slices.Equal(s.Used(), used) || len(s.Fresh()) != 0 || !slices.Equal(s.Versions(), []int{1, 2}) {
				t.Error(name, fuse, n, e, s.Used(), s.Fresh(), s.Versions())
			}
		}
	}
}

// ErrDown is told first by each call that tells errors.
func TestDown(t *testing.T) {
	for _, busy := range []bool{false, true} {
		d, s := format(t, 200)
		commit(t, s, map[string]api.Table{"a": table(1)})
		ok(t, "Begin", s.Begin())
		fresh, used := []int(nil), s.Used()
		if busy {
			ok(t, "Put", s.Put("b", table(1)))
			fresh = s.Fresh()
			d.Fuse(0)
			if e := s.Put("c", table(2)); e != api.ErrDown {
				t.Error("Put", e)
			}
		} else {
			ok(t, "Abort", s.Abort())
			d.Fuse(0)
			d.Barrier()
			if _, e := s.Names(0); e != api.ErrDown {
				t.Error("Names", e)
			}
		}
		d.Crash(nil, -1, 0) // the power is back, but not for this store
		if !s.Down() || s.Busy() != busy || !slices.Equal(s.Fresh(), fresh) || !slices.Equal(s.Used(), used) || !slices.Equal(s.Versions(), []int{1}) {
			t.Error("down", s.Down(), s.Busy(), s.Fresh(), s.Used(), s.Versions())
		}
		long := strings.Repeat("x", 17)
		build, e1 := s.Build(long, 0, 0, num(2, 0), 99, 0, 0, -1)
		upgrade, e2 := s.Upgrade(long, 0, 0, -1)
		version, e3 := s.Commit()
		_, e4 := s.Table(9, long)
		_, e5 := s.Query(9, long, num(2, 0))
		names, e6 := s.Names(9)
		freed, e7 := s.Gc()
		bad, e8 := s.Scrub()
		reached, e9 := s.Reach()
		for i, e := range []api.Errno{s.Begin(), e1, e2, s.Put(long, api.Table{}), s.Drop(long), e3, s.Abort(), e4, e5, e6, s.Prune(9), e7, e8, e9} {
			if e != api.ErrDown {
				t.Error("a call of a store that is down", i, e)
			}
		}
		if build+upgrade+version+freed+len(names)+len(bad)+len(reached) != 0 {
			t.Error("an answer beside ErrDown")
		}
	}
}

// model is a store in the simplest words.
type model struct {
	versions map[int]map[string]string
	next     int
	open     map[string]string
	busy     bool
}

func (m *model) last() int {
	if len(m.versions) == 0 {
		return 0
	}
	return slices.Max(slices.Collect(maps.Keys(m.versions)))
}

// T3: as a map of names for each version.
func TestAsModel(t *testing.T) {
	r := rand.New(rand.NewPCG(211, 212))
	for round := range 8 {
		sectors := []int{1024, 60}[round%2]
		d, s := format(t, sectors)
		m := model{versions: map[int]map[string]string{}, next: 1}
		may := func(e, want api.Errno) bool { // may it have told so? A small disk may be full.
			t.Helper()
			if e != want && (e != api.ErrFull || sectors == 1024) {
				t.Fatal("told", e, "want", want)
			}
			return e == api.OK
		}
		for range 300 {
			name, tab := string([]byte{'a' + byte(r.IntN(12))})+strings.Repeat("n", r.IntN(3)), table(r.IntN(60))
			_, there := m.open[name]
			state := func(busy bool, want api.Errno) api.Errno {
				if m.busy != busy {
					return api.ErrState
				}
				return want
			}
			none := func(there bool) api.Errno {
				if there {
					return api.OK
				}
				return api.ErrNone
			}
			switch r.IntN(14) {
			case 0, 1:
				if may(s.Begin(), state(false, api.OK)) {
					m.open, m.busy = maps.Clone(m.versions[m.last()]), true
					if m.open == nil {
						m.open = map[string]string{}
					}
				}
			case 2, 3, 4, 5, 6:
				if may(s.Put(name, tab), state(true, api.OK)) {
					m.open[name] = text(t, tab)
				}
			case 7:
				if may(s.Drop(name), state(true, none(there))) {
					delete(m.open, name)
				}
			case 8, 9:
				want := state(true, api.OK)
				if want == api.OK && len(m.versions) == 12 {
					want = api.ErrFull
				}
				v, e := s.Commit()
				if may(e, want) {
					if v != m.next {
						t.Error("Commit", v, m.next)
					}
					m.versions[v], m.busy, m.open = m.open, false, nil
					m.next++
				}
			case 10:
				if may(s.Abort(), state(true, api.OK)) {
					m.busy, m.open = false, nil
				}
			case 11:
				v := 1 + r.IntN(m.next)
				_, there := m.versions[v]
				if may(s.Prune(v), state(false, none(there && v != m.last()))) {
					delete(m.versions, v)
				}
			case 12:
				_, e := s.Gc()
				may(e, state(false, api.OK))
			case 13:
				if bad, e := s.Scrub(); len(bad) != 0 || e != api.OK {
					t.Error("Scrub", bad, e)
				}
			}
			if s.Busy() != m.busy || !slices.Equal(s.Versions(), slices.Sorted(maps.Keys(m.versions))) || !m.busy && len(s.Fresh()) != 0 {
				t.Fatal("the state", s.Busy(), s.Versions(), s.Fresh())
			}
			if r.IntN(10) == 0 && !alike(shot(t, s), m.versions) {
				t.Fatal("the versions are others")
			}
		}
		again, e := store.Open(d)
		ok(t, "Open", e)
		if !alike(shot(t, s), m.versions) || !alike(shot(t, again), m.versions) || again.Busy() {
			t.Error("the versions are others")
		}
	}
}

// script is what is done in a test of crashes, step by step; each step that may change versions is one call.
func script() []func(s *store.Store) api.Errno {
	put := func(name string, n int) func(s *store.Store) api.Errno {
		return func(s *store.Store) api.Errno { return s.Put(name, table(n)) }
	}
	commit := func(s *store.Store) api.Errno { _, e := s.Commit(); return e }
	gc := func(s *store.Store) api.Errno { _, e := s.Gc(); return e }
	begin := (*store.Store).Begin
	drop := func(s *store.Store) api.Errno { return s.Drop("b") }
	prune := func(v int) func(s *store.Store) api.Errno {
		return func(s *store.Store) api.Errno { return s.Prune(v) }
	}
	build := func(s *store.Store) api.Errno {
		_, e := s.Build("sin", api.Sin, 0, api.Dy{}, -3, 4, 1, 9)
		return e
	}
	upgrade := func(s *store.Store) api.Errno { _, e := s.Upgrade("sin", 5, 1, 9); return e }
	return []func(s *store.Store) api.Errno{begin, put("a", 15), put("b", 3), commit, begin, put("a", 30), build, commit, gc, prune(1), gc, begin, drop, upgrade, put("c", 47), commit, prune(2), gc, begin, put("d", 1), (*store.Store).Abort, begin, put("e", 2), commit, gc}
}

// T2: wherever the power goes, Open shows what was behind the last call that was OK, or behind the one that was under way.
func TestCrashes(t *testing.T) {
	r := rand.New(rand.NewPCG(221, 222))
	steps := script()
	var shots []map[int]map[string]string // ahead of each step, and behind the last one
	_, s := format(t, 120)
	for _, step := range steps {
		shots = append(shots, shot(t, s))
		ok(t, "a step", step(s))
	}
	shots = append(shots, shot(t, s))
	for fuse := 0; ; fuse++ {
		down := false
		for range 6 {
			d, s := format(t, 120)
			d.Fuse(fuse)
			i := 0
			for i < len(steps) && steps[i](s) == api.OK {
				i++
			}
			if i == len(steps) {
				break
			}
			down = true
			if !s.Down() {
				t.Fatal("a step has another error", i)
			}
			keep := make([]int, d.Waiting())
			for j := range keep {
				keep[j] = r.IntN(2)
			}
			d.Crash(keep, r.IntN(d.Waiting()+2)-1, r.IntN(65))
			again, e := store.Open(d)
			ok(t, "Open", e)
			got := shot(t, again)
			if !alike(got, shots[i]) && !alike(got, shots[i+1]) || again.Busy() {
				t.Fatal("behind a crash", fuse, i, got)
			}
			// And it goes on from there.
			if _, e := again.Gc(); e != api.OK {
				t.Fatal("Gc behind a crash", e)
			}
			commit(t, again, map[string]api.Table{"new": table(7)})
			if got, e := again.Table(0, "new"); e != api.OK || text(t, got) != text(t, table(7)) {
				t.Error("Table behind a crash", e)
			}
		}
		if !down {
			break
		}
	}
}

// T2, the second example of the whole: the power goes between a head's two sectors.
func TestTornHead(t *testing.T) {
	for lasting := range 2 {
		d, s := format(t, 100)
		commit(t, s, map[string]api.Table{"a": table(1)})
		before := shot(t, s)
		ok(t, "Begin", s.Begin())
		ok(t, "Put", s.Put("a", table(2)))
		d.Barrier()
		d.Fuse(4) // the list's page in two sectors, a Barrier, and the head's first sector
		if v, e := s.Commit(); v != 0 || e != api.ErrDown || d.Waiting() != 1 || !s.Busy() {
			t.Fatal("Commit", v, e, d.Waiting())
		}
		d.Crash([]int{lasting}, -1, 0)
		again, e := store.Open(d)
		ok(t, "Open", e)
		if !alike(shot(t, again), before) {
			t.Error("the head that was counts", lasting, again.Versions())
		}
	}
}

// T1, T4, and the examples of the whole: what is asked of a table that was built.
func TestWhole(t *testing.T) {
	r := rand.New(rand.NewPCG(231, 232))
	_, s := format(t, 1024)
	tables := []struct {
		name    string
		f, n    int
		a       api.Dy
		w, p, d int
	}{{"sin", api.Sin, 0, api.Dy{}, -2, 8, 3}, {"exp", api.Exp, 0, num(-1, 0), 1, 16, 6}, {"ln", api.Ln, 0, num(1, -1), 0, 12, 6}, {"bessel", api.Bessel, 1, num(-1, 1), 2, 14, 8}}
	places := map[string][]api.Dy{}
	old := map[string][]api.Iv{}
	ok(t, "Begin", s.Begin())
	for _, c := range tables {
		_, e := s.Build(c.name, c.f, c.n, c.a, c.w, c.p, c.d, 60)
		ok(t, "Build", e)
		for range 20 {
			off, _ := dyad.Make(zint.From(r.IntN(1<<30+1)), c.w-30)
			x, _ := dyad.Add(c.a, off)
			places[c.name] = append(places[c.name], x)
		}
	}
	_, e := s.Commit()
	ok(t, "Commit", e)
	ask := func(version, more int) map[string][]api.Iv {
		all := map[string][]api.Iv{}
		for _, c := range tables {
			for _, x := range places[c.name] {
				a, e := s.Query(version, c.name, x)
				ok(t, "Query", e)
				truth, e := fun.Eval(c.f, c.n, x, 64)
				ok(t, "Eval", e)
				fine, _ := iv.New(200)
				if fine.Meet(a, truth); fine.Err() != api.OK {
					t.Error("the value is not in the stretch", c, x, a, truth)
				}
				low, _ := dyad.Size(a.Lo)
				high, _ := dyad.Size(a.Hi)
				if wide := fine.Sub(fine.Point(a.Hi), fine.Point(a.Lo)); dyad.Cmp(wide.Hi, dyad.Half(max(low, high, 0)-c.p-more)) > 0 {
					t.Error("wide", c, x, a)
				}
				all[c.name] = append(all[c.name], a)
			}
		}
		return all
	}
	old = ask(1, 0)
	ok(t, "Begin", s.Begin())
	for _, c := range tables {
		_, e := s.Upgrade(c.name, c.p+6, c.d, 60)
		ok(t, "Upgrade", e)
	}
	_, e = s.Commit()
	ok(t, "Commit", e)
	ask(0, 6)
	again := ask(1, 0)
	for name, l := range old {
		if !slices.EqualFunc(l, again[name], equal) {
			t.Error("the version ahead answers otherwise", name)
		}
	}
	last := ask(2, 6)
	ok(t, "Prune", s.Prune(1))
	if n, e := s.Gc(); n == 0 || e != api.OK {
		t.Error("Gc", n, e)
	}
	for name, l := range ask(2, 6) {
		if !slices.EqualFunc(l, last[name], equal) {
			t.Error("behind Gc it answers otherwise", name)
		}
	}
	if a, e := s.Query(0, "sin", num(1, -3)); e != api.OK || dyad.Cmp(a.Lo, num(1, -3)) >= 0 || dyad.Cmp(a.Hi, num(1, -4)) <= 0 {
		t.Error("the sine of 1/8", a, e)
	}
}

// T5
func TestRoom(t *testing.T) {
	_, s := format(t, 1000)
	ok(t, "Begin", s.Begin())
	if used, e := s.Build("erf", api.Erf, 0, api.Dy{}, 0, 24, 12, 40); used < 1 || used > 40 || e != api.OK {
		t.Error("Build", used, e)
	}
	_, e := s.Commit()
	ok(t, "Commit", e)
	commit(t, s, map[string]api.Table{"other": table(3)})
	ok(t, "Prune", s.Prune(1))
	_, e = s.Gc()
	ok(t, "Gc", e)
	reached, e := s.Reach()
	ok(t, "Reach", e)
	if !slices.Equal(s.Used(), append([]int{0, 1}, reached...)) {
		t.Error("behind Gc", s.Used(), reached)
	}
}
