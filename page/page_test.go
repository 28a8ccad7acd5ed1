package page_test

import (
	"hash/crc32"
	"math"
	"math/rand/v2"
	"strings"
	"testing"

	"astrolabe/api"
	"astrolabe/disk"
	"astrolabe/page"
)

func random(r *rand.Rand, n int) string {
	b := make([]byte, n)
	for i := range b {
		b[i] = byte(r.IntN(256))
	}
	return string(b)
}

// resealed is b with the sum that belongs to its first bytes.
func resealed(b string) string {
	s := crc32.ChecksumIEEE([]byte(b[:124]))
	return b[:124] + string([]byte{byte(s), byte(s >> 8), byte(s >> 16), byte(s >> 24)})
}

// P18.1
func TestSum(t *testing.T) {
	if got := page.Sum("123456789"); got != 0xCBF43926 {
		t.Errorf("Sum(123456789): %x", got)
	}
	if got := page.Sum(""); got != 0 {
		t.Errorf("Sum of nothing: %x", got)
	}
	r := rand.New(rand.NewPCG(151, 152))
	for n := range 400 {
		s := random(r, n)
		if got, want := page.Sum(s), crc32.ChecksumIEEE([]byte(s)); got != want {
			t.Errorf("Sum of %d bytes: %x, want %x", n, got, want)
		}
	}
}

// P18.1
func TestSeal(t *testing.T) {
	r := rand.New(rand.NewPCG(153, 154))
	for kind := 1; kind <= 9; kind++ {
		for _, n := range []int{0, 1, 2, 59, 60, 61, 119, 120} {
			text := random(r, n)
			want := resealed("AS" + string([]byte{byte(kind), byte(n)}) + text + strings.Repeat("\x00", 124))
			got, e := page.Seal(kind, text)
			if got != want || e != api.OK {
				t.Errorf("Seal(%d, %q): %q %d", kind, text, got, e)
			}
			if k, s, e := page.Open(got); k != kind || s != text || e != api.OK {
				t.Errorf("Open of Seal(%d, %q): %d %q %d", kind, text, k, s, e)
			}
		}
	}
	for _, c := range []struct {
		kind int
		text string
	}{{0, ""}, {10, ""}, {-1, ""}, {math.MinInt, ""}, {math.MaxInt, ""}, {257, ""}, {1, strings.Repeat("x", 121)}, {1, strings.Repeat("x", 1000)}} {
		if got, e := page.Seal(c.kind, c.text); got != "" || e != api.ErrArg {
			t.Errorf("Seal(%d, %d bytes): %q %d", c.kind, len(c.text), got, e)
		}
	}
}

// P18.1
func TestOpen(t *testing.T) {
	good, _ := page.Seal(3, "some text")
	change := func(i int, b byte) string { return resealed(good[:i] + string([]byte{b}) + good[i+1:]) }
	for name, c := range map[string]struct {
		b    string
		want api.Errno
	}{
		"nothing": {"", api.ErrForm}, "a byte less": {good[1:], api.ErrForm}, "a byte more": {good + "\x00", api.ErrForm}, "two": {good + good, api.ErrForm},
		"zeros": {strings.Repeat("\x00", 128), api.ErrSum}, "another sum": {good[:124] + "\x01\x02\x03\x04", api.ErrSum}, "another byte": {good[:5] + "!" + good[6:], api.ErrSum},
		"mark 1": {change(0, 'B'), api.ErrForm}, "mark 2": {change(1, 's'), api.ErrForm}, "kind 0": {change(2, 0), api.ErrForm}, "kind 10": {change(2, 10), api.ErrForm}, "kind 255": {change(2, 255), api.ErrForm},
		"less text": {change(3, 8), api.ErrForm}, "too much text": {change(3, 121), api.ErrForm}, "far too much text": {change(3, 255), api.ErrForm}, "behind the text": {change(50, 1), api.ErrForm}, "the last byte": {change(123, 1), api.ErrForm},
	} {
		if kind, text, e := page.Open(c.b); kind != 0 || text != "" || e != c.want {
			t.Errorf("Open of %s: %d %q %d", name, kind, text, e)
		}
	}
	if kind, text, e := page.Open(change(3, 10)); kind != 3 || text != "some text\x00" || e != api.OK {
		t.Errorf("Open of a zero more: %d %q %d", kind, text, e)
	}
}

// P18.3
func TestTurnedBits(t *testing.T) {
	r := rand.New(rand.NewPCG(155, 156))
	good, _ := page.Seal(5, random(r, 120))
	refused := func(b []byte) {
		t.Helper()
		if kind, text, e := page.Open(string(b)); e == api.OK || kind != 0 || text != "" {
			t.Errorf("Open: %d %q %d", kind, text, e)
		}
	}
	for i := range 1024 {
		b := []byte(good)
		b[i/8] ^= 1 << (i % 8)
		refused(b)
	}
	for range 3000 {
		b, first := []byte(good), 32+r.IntN(120*8-32)
		pattern := r.Uint32() | 1
		for i := range 32 {
			if pattern>>i&1 == 1 {
				b[(first+i)/8] ^= 1 << ((first + i) % 8)
			}
		}
		refused(b)
	}
}

// P18.2
func TestWriteRead(t *testing.T) {
	d, _ := disk.New(7)
	if e := page.Write(d, 1, 4, "hello"); e != api.OK || d.Waiting() != 2 {
		t.Error("Write", e, d.Waiting())
	}
	want, _ := page.Seal(4, "hello")
	first, _ := d.Read(2)
	second, _ := d.Read(3)
	if first+second != want {
		t.Errorf("the sectors: %q %q", first, second)
	}
	if kind, text, e := page.Read(d, 1); kind != 4 || text != "hello" || e != api.OK {
		t.Error("Read", kind, text, e)
	}
	if kind, text, e := page.Read(d, 0); kind != 0 || text != "" || e != api.ErrSum {
		t.Error("Read of zeros", kind, text, e)
	}
	waiting := d.Waiting()
	for _, c := range []struct {
		n, kind int
		text    string
	}{{-1, 1, ""}, {math.MinInt, 1, ""}, {1<<20 + 1, 1, ""}, {math.MaxInt, 1, ""}, {1, 0, ""}, {1, 10, ""}, {1, 1, strings.Repeat("x", 121)}, {4, 1, ""}, {1 << 20, 1, ""}} {
		if e := page.Write(d, c.n, c.kind, c.text); e != api.ErrArg || d.Waiting() != waiting {
			t.Error("Write", c.n, c.kind, e, d.Waiting())
		}
	}
	for _, n := range []int{-1, 3, 4, 1 << 20, 1<<20 + 1, math.MinInt, math.MaxInt} {
		if kind, text, e := page.Read(d, n); kind != 0 || text != "" || e != api.ErrArg {
			t.Error("Read", n, kind, text, e)
		}
	}
	if e := page.Write(d, 3, 1, "x"); e != api.ErrArg || d.Waiting() != waiting+1 {
		t.Error("of a half page the first half is written", e, d.Waiting())
	}
}

// P18.2: the power goes.
func TestDown(t *testing.T) {
	d, _ := disk.New(8)
	d.Fuse(1)
	if e := page.Write(d, 2, 1, "x"); e != api.ErrDown || d.Waiting() != 1 {
		t.Error("the second half", e, d.Waiting())
	}
	if e := page.Write(d, 2, 0, "x"); e != api.ErrArg {
		t.Error("what Seal says comes first", e)
	}
	if e := page.Write(d, -1, 1, "x"); e != api.ErrArg {
		t.Error("the number comes first", e)
	}
	if e := page.Write(d, 2, 1, "x"); e != api.ErrDown {
		t.Error("Write", e)
	}
	if kind, text, e := page.Read(d, 2); kind != 0 || text != "" || e != api.ErrDown {
		t.Error("Read", kind, text, e)
	}
	if _, _, e := page.Read(d, -1); e != api.ErrArg {
		t.Error("Read: the number comes first", e)
	}
}
