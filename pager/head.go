package pager

import (
	"maps"
	"slices"

	"astrolabe/api"
)

const (
	turnBytes = 6
	rootBytes = 2
	bitsAt    = turnBytes + rootBytes
	headBytes = bitsAt + api.MaxSector/2/8
)

// head says which pages are used, and where what is kept begins.
type head struct {
	turn, root int
	used       map[int]struct{}
}

// newHead is a head of which the heads' pages and those given are used.
func newHead(turn, root int, pages ...int) head {
	h := head{turn: turn, root: root, used: map[int]struct{}{}}
	for n := range heads {
		h.used[n] = struct{}{}
	}
	for _, n := range pages {
		h.used[n] = struct{}{}
	}
	return h
}

// Turn is how many heads there were, this one counted.
func (h *head) Turn() int { return h.turn }

// Root is the page where what is kept begins; 0, if there is nothing.
func (h *head) Root() int { return h.root }

// Used are the used pages, rising.
func (h *head) Used() []int { return slices.Sorted(maps.Keys(h.used)) }

// uses is whether page n is used.
func (h *head) uses(n int) bool {
	_, ok := h.used[n]
	return ok
}

// rooted is whether the root is 0, or a used page that is no head.
func (h *head) rooted() bool { return h.root == 0 || h.root >= heads && h.uses(h.root) }

// place is the page that the head stands in.
func (h *head) place() int { return h.turn % heads }

// text is the head as a page's text.
func (h *head) text() string {
	b := make([]byte, headBytes)
	for i := range turnBytes {
		b[i] = byte(h.turn >> (8 * (turnBytes - 1 - i)))
	}
	b[turnBytes], b[turnBytes+1] = byte(h.root>>8), byte(h.root)
	for n := range h.used {
		b[bitsAt+n/8] |= 1 << (n % 8)
	}
	return string(b)
}

// readHead is the head of a text, and whether the text may be one.
func readHead(text string) (head, bool) {
	if len(text) != headBytes {
		return head{}, false
	}
	h := head{used: map[int]struct{}{}}
	for i := range turnBytes {
		h.turn = h.turn<<8 | int(text[i])
	}
	h.root = int(text[turnBytes])<<8 | int(text[turnBytes+1])
	for n := range (headBytes - bitsAt) * 8 {
		if text[bitsAt+n/8]>>(n%8)&1 == 1 {
			h.used[n] = struct{}{}
		}
	}
	return h, true
}

// fits is whether the head may stand in page n of a disk of so many pages.
func (h *head) fits(n, pages int) bool {
	for used := range h.used {
		if used >= pages {
			return false
		}
	}
	return h.turn != 0 && h.place() == n && h.rooted() && h.uses(0) && h.uses(1)
}
