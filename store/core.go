package store

import (
	"maps"
	"slices"

	"astrolabe/api"
	"astrolabe/blob"
	"astrolabe/cat"
	"astrolabe/cheb"
	"astrolabe/cow"
	"astrolabe/pager"
	"astrolabe/tabc"
)

// heads is how many pages, from page 0 on, are the pager's own.
const heads = 2

// core is a store's pager, and what is known of what it holds.
type core struct {
	*pager.Pager
	list cat.List
	// busy is whether there is a transaction, and root is its tree's.
	busy bool
	root int
}

// state is the error of a call that asks for a transaction, or for none.
func (c *core) state(busy bool) api.Errno {
	switch {
	case c.Down():
		return api.ErrDown
	case c.busy != busy:
		return api.ErrState
	}
	return api.OK
}

// named is the error of a call with names.
func (c *core) named(names ...string) api.Errno {
	if c.Down() {
		return api.ErrDown
	}
	for _, name := range names {
		if len(name) < 1 || len(name) > api.MaxName {
			return api.ErrArg
		}
	}
	return api.OK
}

// asked is the error of a call with names that asks for a transaction, or for none.
func (c *core) asked(busy bool, names ...string) api.Errno {
	if e := c.state(busy); e != api.OK {
		return e
	}
	return c.named(names...)
}

// version is the root of a version's tree.
func (c *core) version(number int) (root int, e api.Errno) {
	i, ok := cat.Find(c.list, number)
	if !ok {
		return 0, api.ErrNone
	}
	return c.list.L[i].Root, api.OK
}

// table is the table of a name in a tree.
func (c *core) table(root int, name string) (api.Table, api.Errno) {
	first, e := cow.Get(c.Pager, root, name)
	if e != api.OK {
		return api.Table{}, e
	}
	text, e := blob.Read(c.Pager, first)
	if e != api.OK {
		return api.Table{}, e
	}
	return tabc.Decode(text)
}

// build puts a table that is built; the fuel is told also where it can't be put.
func (c *core) build(name string, f, n int, a api.Dy, w, p, d, fuel int) (used int, e api.Errno) {
	t, used, e := cheb.Build(f, n, a, w, p, d, fuel)
	if e != api.OK {
		return used, e
	}
	return used, c.put(name, t)
}

// put writes a table, and puts it into the transaction's tree; with an error no page of it stays fresh.
func (c *core) put(name string, t api.Table) api.Errno {
	text, e := tabc.Encode(t)
	if e != api.OK {
		return api.ErrArg
	}
	before := len(c.Fresh())
	first, e := blob.Write(c.Pager, text)
	if e != api.OK {
		return e
	}
	root, e := cow.Put(c.Pager, c.root, name, first)
	if e != api.OK {
		c.Back(before)
		return e
	}
	c.root = root
	return api.OK
}

// save makes a list the one that counts; with an error the fresh pages are those that were.
func (c *core) save(list cat.List) api.Errno {
	before := len(c.Fresh())
	first, e := cat.Save(c.Pager, list)
	if e == api.OK {
		e = c.Commit(first)
	}
	if e != api.OK {
		c.Back(before)
		return e
	}
	c.list = list
	return api.OK
}

// kept are the used pages, but the heads, rising.
func (c *core) kept() []int { return c.Used()[heads:] }

// reach is Reach of a store that is not down.
func (c *core) reach() ([]int, api.Errno) {
	reached := map[int]struct{}{}
	if c.Root() != 0 {
		if e := c.mark(reached, c.Root()); e != api.OK {
			return nil, e
		}
	}
	for _, v := range c.list.L {
		pages, e := cow.Pages(c.Pager, v.Root)
		if e != api.OK {
			return nil, e
		}
		add(reached, pages...)
		entries, e := cow.Scan(c.Pager, v.Root, "", "")
		if e != api.OK {
			return nil, e
		}
		for _, entry := range entries {
			if e := c.mark(reached, entry.Kid); e != api.OK {
				return nil, e
			}
		}
	}
	return slices.Sorted(maps.Keys(reached)), api.OK
}

// mark adds the pages of a text to those that are reached.
func (c *core) mark(reached map[int]struct{}, first int) api.Errno {
	pages, e := blob.Pages(c.Pager, first)
	if e != api.OK {
		return e
	}
	add(reached, pages...)
	return api.OK
}

func add(reached map[int]struct{}, pages ...int) {
	for _, n := range pages {
		reached[n] = struct{}{}
	}
}

// sweep is Gc of a store without a transaction.
func (c *core) sweep() (freed int, e api.Errno) {
	reached, e := c.reach()
	if e != api.OK {
		return 0, e
	}
	before := c.kept()
	if !slices.ContainsFunc(before, func(n int) bool { return !slices.Contains(reached, n) }) {
		return 0, api.OK
	}
	if e := c.Keep(c.Root(), reached); e != api.OK {
		return 0, e
	}
	return len(before) - len(c.kept()), api.OK
}
