package node_test

import (
	"math"
	"math/rand/v2"
	"slices"
	"strings"
	"testing"

	"astrolabe/api"
	"astrolabe/node"
)

func leaf(keys []string, kids ...int) node.Node {
	return node.Node{Leaf: true, Keys: keys, Kids: kids}
}
func inner(keys []string, kids ...int) node.Node { return node.Node{Keys: keys, Kids: kids} }

func equal(a, b node.Node) bool {
	return a.Leaf == b.Leaf && slices.Equal(a.Keys, b.Keys) && slices.Equal(a.Kids, b.Kids)
}

func copied(n node.Node) node.Node {
	return node.Node{Leaf: n.Leaf, Keys: slices.Clone(n.Keys), Kids: slices.Clone(n.Kids)}
}

// random makes a node that is right, but perhaps for Size, with up to most keys.
func random(r *rand.Rand, most int) node.Node {
	names := map[string]int{}
	for range r.IntN(most + 1) {
		b := make([]byte, 1+r.IntN(r.IntN(16)+1))
		for i := range b {
			b[i] = "ab\x00\xff"[r.IntN(4)]
		}
		names[string(b)] = 1
	}
	n := node.Node{Leaf: r.IntN(2) == 0}
	for name := range names {
		n.Keys = append(n.Keys, name)
	}
	slices.Sort(n.Keys)
	kids := len(n.Keys)
	if !n.Leaf {
		kids++
	}
	for range kids {
		n.Kids = append(n.Kids, 2+r.IntN(510))
	}
	return n
}

// wild are nodes of no shape at all.
func wild() []node.Node {
	return []node.Node{
		{}, {Leaf: true}, leaf([]string{"a"}), leaf(nil, 5), leaf([]string{"a", "b"}, 5), inner(nil), inner([]string{"a"}), inner([]string{"a"}, 5), inner([]string{"a"}, 5, 6, 7), inner([]string{"b", "a", "b", "a"}, 5),
		inner([]string{"b", "a", "", "a", "b"}, 1, 2, 3), leaf([]string{"b", "a", "", "a"}, -1, 0, math.MinInt, math.MaxInt), leaf([]string{strings.Repeat("x", 1000)}, 3), leaf(nil, make([]int, 1000)...),
	}
}

var sixteen = strings.Repeat("k", 16)

// P21.1
func TestRight(t *testing.T) {
	full := leaf([]string{"1" + sixteen[1:], "2" + sixteen[1:], "3" + sixteen[1:], "4" + sixteen[1:], "5" + sixteen[1:], "6" + sixteen[1:], "7"}, 2, 3, 4, 5, 6, 7, 511)
	for _, n := range []node.Node{leaf([]string{"a"}, 2), leaf([]string{"a", "aa", "b"}, 511, 511, 2), inner(nil, 5), inner([]string{"\x00"}, 2, 511), leaf([]string{sixteen}, 9), full} {
		if !node.Right(n) {
			t.Error("not Right", n)
		}
	}
	if node.Size(full) != 119 {
		t.Error("Size", node.Size(full))
	}
	more := copied(full)
	more.Keys[6] = "77"
	if !node.Right(more) || node.Size(more) != 120 {
		t.Error("not Right: 120 bytes", node.Size(more))
	}
	more.Keys[6] = "777"
	if node.Right(more) || node.Size(more) != 121 {
		t.Error("Right: 121 bytes", node.Size(more))
	}
	for _, n := range append(wild()[1:],
		leaf([]string{"a"}, 1), leaf([]string{"a"}, 0), leaf([]string{"a"}, -5), leaf([]string{"a"}, 512), inner(nil, 512), inner(nil, 1), inner([]string{"a"}, 5, 512), inner([]string{"a"}, 1, 5),
		leaf([]string{""}, 5), leaf([]string{sixteen + "k"}, 5), leaf([]string{"b", "a"}, 5, 6), leaf([]string{"a", "a"}, 5, 6), inner([]string{"b", "a"}, 5, 6, 7), inner([]string{"b", "b"}, 5, 6, 7), inner([]string{""}, 5, 6),
	) {
		if node.Right(n) {
			t.Error("Right", n)
		}
		if s, e := node.Encode(n); s != "" || e != api.ErrArg {
			t.Error("Encode", n, s, e)
		}
	}
}

// P21.1
func TestSizeEncode(t *testing.T) {
	for _, c := range []struct {
		n    node.Node
		want string
	}{
		{leaf([]string{"abc"}, 511), "\x01\x03abc\x01\xff"},
		{leaf([]string{"a", "b"}, 2, 256), "\x01\x01a\x00\x02\x01b\x01\x00"},
		{inner(nil, 300), "\x00\x01\x2c"},
		{inner([]string{"a", "bc"}, 2, 3, 4), "\x00\x00\x02\x01a\x00\x03\x02bc\x00\x04"},
	} {
		if s, e := node.Encode(c.n); s != c.want || e != api.OK || node.Size(c.n) != len(c.want) {
			t.Errorf("Encode(%v): %q %d %d", c.n, s, e, node.Size(c.n))
		}
		if n, e := node.Decode(c.want); !equal(n, c.n) || e != api.OK {
			t.Errorf("Decode(%q): %v %d", c.want, n, e)
		}
		for i := range c.want {
			if n, e := node.Decode(c.want[:i]); e == api.OK && len(n.Keys) == len(c.n.Keys) {
				t.Errorf("Decode(%q): %v", c.want[:i], n)
			}
		}
	}
	for n, want := range map[int]int{0: 1, 3: 7, 1000: 2001} {
		if got := node.Size(leaf(nil, make([]int, n)...)); got != want {
			t.Error("Size", n, got)
		}
	}
}

// P21.1
func TestDecode(t *testing.T) {
	for _, s := range []string{
		"", "\x00", "\x01", "\x02", "\x00\x00", "\x00\x00\x01", "\x00\x02\x00", "\x01\x00\x00\x02", "\x01\x01a", "\x01\x01a\x00", "\x01\x01a\x00\x01", "\x01\x01a\x02\x00", "\x01\x01a\x00\x02\x00", "\x01\x01b\x00\x02\x01a\x00\x02", "\x01\x01a\x00\x02\x01a\x00\x02",
		"\x02\x01a\x00\x02", "\xff\x00\x02", "\x00\x00\x02\x01", "\x00\x00\x02\x01a", "\x00\x00\x02\x01a\x00", "\x00\x00\x02\x00\x00\x03", "\x01\x11" + sixteen + "k\x00\x02", "\x01\xffabc\x00\x02",
		"\x01" + strings.Repeat("\x01a\x00\x02", 40), "\x00" + strings.Repeat("\x00", 119), strings.Repeat("\xff", 120), strings.Repeat("\x01", 5000),
	} {
		if n, e := node.Decode(s); e != api.ErrForm || !equal(n, node.Node{}) || n.Kids != nil || n.Keys != nil {
			t.Errorf("Decode(%.40q): %v %d", s, n, e)
		}
	}
	long := "\x01"
	for i := range 30 { // 121 bytes, in order
		long += "\x01" + string([]byte{byte('0' + i)}) + "\x00\x02"
	}
	if n, e := node.Decode(long); e != api.ErrForm || !equal(n, node.Node{}) {
		t.Error("Decode of 121 bytes", n, e)
	}
	if n, e := node.Decode(long[:117]); e != api.OK || len(n.Keys) != 29 {
		t.Error("Decode of 117 bytes", n, e)
	}
	r := rand.New(rand.NewPCG(181, 182))
	for range 20000 {
		b := make([]byte, r.IntN(20))
		for i := range b {
			b[i] = "\x00\x00\x01\x01\x02\x03ab"[r.IntN(8)]
		}
		n, e := node.Decode(string(b))
		if s, e2 := node.Encode(n); e == api.OK && (e2 != api.OK || s != string(b)) || e != api.OK && e != api.ErrForm {
			t.Errorf("Decode(%q): %v %d, written %q", b, n, e, s)
		}
	}
}

// P21.2: as a plain list of keys with kids does it.
func TestChildPut(t *testing.T) {
	r := rand.New(rand.NewPCG(183, 184))
	for range 5000 {
		n, other := random(r, 12), random(r, 3)
		keep := copied(n)
		key, kid := "ab", 2+r.IntN(510)
		switch {
		case len(n.Keys) > 0 && r.IntN(2) == 0:
			key = n.Keys[r.IntN(len(n.Keys))]
		case len(other.Keys) > 0:
			key = other.Keys[0]
		}
		at, below := slices.Index(n.Keys, key), 0
		for _, k := range n.Keys {
			if k <= key {
				below++
			}
		}
		want := at
		if !n.Leaf {
			want = below
		}
		if got := node.Child(n, key); got != want {
			t.Errorf("Child(%v, %q): %d, want %d", n, key, got, want)
		}
		put := copied(n)
		if at < 0 {
			at = below
			put.Keys = slices.Insert(put.Keys, at, key)
			if n.Leaf {
				put.Kids = slices.Insert(put.Kids, at, kid)
			} else {
				put.Kids = slices.Insert(put.Kids, at+1, kid)
			}
		} else if n.Leaf {
			put.Kids[at] = kid
		} else {
			put.Kids[at+1] = kid
		}
		got := node.Put(n, key, kid)
		if !equal(got, put) || !equal(n, keep) {
			t.Errorf("Put(%v, %q, %d): %v, want %v", keep, key, kid, got, put)
		}
		if i := node.Child(got, key); got.Kids[i] != kid {
			t.Errorf("Child behind Put: %v %q", got, key)
		}
	}
	if got := node.Put(node.Node{Leaf: true}, "a", 5); !equal(got, leaf([]string{"a"}, 5)) {
		t.Error("Put into a leaf without keys", got)
	}
	if got := node.Put(inner(nil, 7), "a", 5); !equal(got, inner([]string{"a"}, 7, 5)) {
		t.Error("Put into a node without keys", got)
	}
}

// P21.2
func TestWithout(t *testing.T) {
	r := rand.New(rand.NewPCG(185, 186))
	for range 3000 {
		n := random(r, 8)
		keep := copied(n)
		for i := -1; i <= len(n.Kids); i++ {
			want := copied(n)
			if i >= 0 && i < len(n.Kids) && len(n.Keys) > 0 {
				want.Kids = slices.Delete(want.Kids, i, i+1)
				key := i
				if !n.Leaf && i > 0 {
					key = i - 1
				}
				want.Keys = slices.Delete(want.Keys, key, key+1)
			}
			if got := node.Without(n, i); !equal(got, want) || !equal(n, keep) {
				t.Errorf("Without(%v, %d): %v, want %v", keep, i, got, want)
			}
		}
		for _, i := range []int{math.MinInt, math.MaxInt} {
			if got := node.Without(n, i); !equal(got, n) {
				t.Errorf("Without(%v, %d): %v", n, i, got)
			}
		}
	}
}

// P21.3
func TestSplit(t *testing.T) {
	keys := []string{"a", "b", "c", "d", "e"}
	for _, c := range []struct {
		n, a node.Node
		mid  string
		b    node.Node
	}{
		{leaf(keys[:4], 2, 3, 4, 5), leaf(keys[:2], 2, 3), "c", leaf(keys[2:4], 4, 5)},
		{leaf(keys, 2, 3, 4, 5, 6), leaf(keys[:2], 2, 3), "c", leaf(keys[2:], 4, 5, 6)},
		{inner(keys[:4], 2, 3, 4, 5, 6), inner(keys[:2], 2, 3, 4), "c", inner(keys[3:4], 5, 6)},
		{inner(keys, 2, 3, 4, 5, 6, 7), inner(keys[:2], 2, 3, 4), "c", inner(keys[3:], 5, 6, 7)},
	} {
		if a, mid, b, ok := node.Split(c.n); !ok || !equal(a, c.a) || mid != c.mid || !equal(b, c.b) {
			t.Error("Split", c.n, a, mid, b, ok)
		}
	}
	for _, n := range []node.Node{leaf(keys[:3], 2, 3, 4), inner(keys[:3], 2, 3, 4, 5), {}, {Leaf: true}, inner(nil, 2)} {
		if a, mid, b, ok := node.Split(n); ok || !equal(a, node.Node{}) || mid != "" || !equal(b, node.Node{}) {
			t.Error("Split", n, a, mid, b, ok)
		}
	}
}

// P21.3
func TestJoin(t *testing.T) {
	a, b := leaf([]string{"a", "b"}, 2, 3), leaf([]string{"c"}, 4)
	if got, ok := node.Join(a, "x", b); !ok || !equal(got, leaf([]string{"a", "b", "c"}, 2, 3, 4)) {
		t.Error("Join of leaves", got, ok)
	}
	c, d := inner([]string{"a"}, 2, 3), inner(nil, 4)
	if got, ok := node.Join(c, "x", d); !ok || !equal(got, inner([]string{"a", "x"}, 2, 3, 4)) {
		t.Error("Join", got, ok)
	}
	if got, ok := node.Join(d, "x", c); !ok || !equal(got, inner([]string{"x", "a"}, 4, 2, 3)) {
		t.Error("Join", got, ok)
	}
	for _, pair := range [][2]node.Node{{a, c}, {c, a}, {a, d}, {{Leaf: true}, {}}} {
		if got, ok := node.Join(pair[0], "x", pair[1]); ok || !equal(got, node.Node{}) {
			t.Error("Join of a leaf and another one", got, ok)
		}
	}
	long := leaf([]string{"1" + sixteen[1:], "2" + sixteen[1:], "3" + sixteen[1:]}, 2, 3, 4)            // 58 bytes
	rest := leaf([]string{"4" + sixteen[1:], "5" + sixteen[1:], "6" + sixteen[1:], "77"}, 5, 6, 7, 8)   // 63 bytes
	other := leaf([]string{"4" + sixteen[1:], "5" + sixteen[1:], "6" + sixteen[1:], "777"}, 5, 6, 7, 8) // 64 bytes
	if got, ok := node.Join(long, "x", rest); !ok || node.Size(got) != 120 || len(got.Keys) != 7 {
		t.Error("Join to 120 bytes", got, ok)
	}
	if got, ok := node.Join(long, "x", other); ok || !equal(got, node.Node{}) {
		t.Error("Join to 121 bytes", got, ok)
	}
	e, f := inner([]string{"1" + sixteen[1:], "2" + sixteen[1:], "3" + sixteen[1:]}, 2, 3, 4, 5), inner([]string{"5" + sixteen[1:], "6" + sixteen[1:]}, 5, 6, 7) // 60 and 41 bytes
	if got, ok := node.Join(e, "4"+sixteen[1:], f); !ok || node.Size(got) != 117 {
		t.Error("Join to 117 bytes", node.Size(got), ok)
	}
	if got, ok := node.Join(e, sixteen+"1234", f); ok || !equal(got, node.Node{}) {
		t.Error("Join: the key between counts", got, ok)
	}
}

// P21.4
func TestLaws(t *testing.T) {
	r := rand.New(rand.NewPCG(187, 188))
	for range 5000 {
		n := random(r, 16)
		keep := copied(n)
		if s, e := node.Encode(n); e == api.OK {
			if back, e := node.Decode(s); e != api.OK || !equal(back, n) || len(s) != node.Size(n) {
				t.Error("written and read", n, back, e)
			}
		} else if node.Size(n) <= api.MaxText && (!n.Leaf || len(n.Keys) > 0) {
			t.Error("Encode", n, e)
		}
		a, mid, b, ok := node.Split(n)
		if ok != (len(n.Keys) >= 4) {
			t.Error("Split", n, ok)
		}
		if joined, okJoin := node.Join(a, mid, b); ok && (okJoin != (node.Size(n) <= api.MaxText) || okJoin && !equal(joined, n)) {
			t.Error("split and joined", n, joined, okJoin)
		}
		if !equal(n, keep) {
			t.Error("the node was written into", keep, n)
		}
	}
}

// P1: of nodes of no shape each call ends.
func TestWild(t *testing.T) {
	for _, n := range wild() {
		for _, i := range []int{-1, 0, 1, 2, 1000, math.MinInt, math.MaxInt} {
			node.Without(n, i)
			node.Put(n, "a", i)
		}
		for _, key := range []string{"", "a", "b", "c"} {
			node.Child(n, key)
			node.Put(n, key, 5)
		}
		node.Split(n)
		for _, m := range wild() {
			node.Join(n, "x", m)
		}
		node.Size(n)
	}
}

// P3: an answer shares no memory with the node, nor with another answer.
func TestNewMemory(t *testing.T) {
	fill := func(l ...node.Node) {
		for _, n := range l {
			for i := range n.Keys[:cap(n.Keys)] {
				n.Keys[:cap(n.Keys)][i] = "!"
			}
			for i := range n.Kids[:cap(n.Kids)] {
				n.Kids[:cap(n.Kids)][i] = 77
			}
		}
	}
	for _, n := range []node.Node{leaf([]string{"a", "b", "c", "d", "e"}, 2, 3, 4, 5, 6), inner([]string{"a", "b", "c", "d", "e"}, 2, 3, 4, 5, 6, 7), inner(nil, 5), {Leaf: true, Keys: make([]string, 0, 3), Kids: make([]int, 0, 3)}} {
		keep, empty := copied(n), node.Node{Leaf: n.Leaf}
		if !n.Leaf {
			empty.Kids = []int{9}
		}
		a, _, b, _ := node.Split(n)
		second := copied(b)
		fill(a)
		if !equal(b, second) {
			t.Error("the parts share", n)
		}
		joined, _ := node.Join(n, "f", empty)
		other, _ := node.Join(empty, "f", n)
		fill(b, joined, other, node.Put(n, "bb", 9), node.Put(n, "b", 9), node.Without(n, 0), node.Without(n, 2), node.Without(n, -1))
		if !equal(n, keep) || len(empty.Kids) > 0 && empty.Kids[0] != 9 {
			t.Error("an answer shares", n, keep)
		}
	}
}
