package cow

import (
	"iter"
	"slices"

	"astrolabe/api"
	"astrolabe/node"
	"astrolabe/pager"
)

const (
	kind     = 3
	maxDepth = 8
	// maxReads is how many pages one call reads.
	maxReads = 512
)

// walk is what one call does: how many pages it has read.
type walk struct {
	p     *pager.Pager
	reads int
}

// seat is a node that was read, and its page.
type seat struct {
	node.Node
	page int
}

// step is a node on the way to a key, and the place of its kid for the key, or, of a leaf, of the key.
type step struct {
	seat
	place int
}

// with is the node with another kid in that place.
func (s step) with(kid int) node.Node {
	n := s.Node
	n.Kids = slices.Clone(n.Kids)
	n.Kids[s.place] = kid
	return n
}

// span is the keys from lo on that are below hi, or all from lo on, if hi is empty.
type span struct{ lo, hi string }

func (r span) has(key string) bool { return key >= r.lo && r.endsBehind(key) }

func (r span) endsBehind(key string) bool { return r.hi == "" || key < r.hi }

// read is the node of a page that is that deep.
func (w *walk) read(page, depth int) (seat, api.Errno) {
	if w.reads == maxReads {
		return seat{}, api.ErrForm
	}
	w.reads++
	k, text, e := w.p.Read(page)
	switch {
	case e != api.OK:
		return seat{}, e
	case k != kind, depth > maxDepth:
		return seat{}, api.ErrForm
	}
	n, e := node.Decode(text)
	if e != api.OK {
		return seat{}, e
	}
	return seat{n, page}, api.OK
}

// write writes a node on a page that is handed out; ErrForm, if it is not right.
func (w *walk) write(n node.Node) (int, api.Errno) {
	text, e := node.Encode(n)
	if e != api.OK {
		return 0, api.ErrForm
	}
	page, e := w.p.Alloc()
	if e != api.OK {
		return 0, e
	}
	if e := w.p.Write(page, kind, text); e != api.OK {
		return 0, e
	}
	return page, api.OK
}

// down is the way from the root to the leaf for a key; ErrNone, if there is nothing in the tree.
func (w *walk) down(root int, key string) ([]step, api.Errno) {
	if root == 0 {
		return nil, api.ErrNone
	}
	var way []step
	for page := root; ; {
		s, e := w.read(page, len(way)+1)
		if e != api.OK {
			return nil, e
		}
		place := node.Child(s.Node, key)
		way = append(way, step{s, place})
		if s.Leaf {
			return way, api.OK
		}
		page = s.Kids[place]
	}
}

// seats goes through the nodes in which there may be keys of a span, each ahead of its kids; behind an error there is no more.
func (w *walk) seats(root int, r span) iter.Seq2[seat, api.Errno] {
	return func(yield func(s seat, e api.Errno) bool) {
		if root != 0 {
			w.under(root, 1, r, yield)
		}
	}
}

// under hands on a node that is that deep, and those under it, and says whether to go on.
func (w *walk) under(page, depth int, r span, yield func(s seat, e api.Errno) bool) bool {
	s, e := w.read(page, depth)
	if !yield(s, e) || e != api.OK {
		return false
	}
	if s.Leaf {
		return true
	}
	for i, kid := range s.Kids {
		if i < len(s.Keys) && s.Keys[i] <= r.lo || i > 0 && !r.endsBehind(s.Keys[i-1]) {
			continue
		}
		if !w.under(kid, depth+1, r, yield) {
			return false
		}
	}
	return true
}

// entries hands on a leaf's keys of a span, with their kids.
func (s seat) entries(r span) iter.Seq[Entry] {
	return func(yield func(entry Entry) bool) {
		if !s.Leaf {
			return
		}
		for i, key := range s.Keys {
			if r.has(key) && !yield(Entry{key, s.Kids[i]}) {
				return
			}
		}
	}
}
