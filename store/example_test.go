package store_test

import (
	"fmt"

	"astrolabe/api"
	"astrolabe/disk"
	"astrolabe/dyad"
	"astrolabe/store"
	"astrolabe/zint"
)

// The example of README.md.
func Example() {
	d, _ := disk.New(1000)
	s, _ := store.Format(d)

	// The sine from 0 to 1/4, to 8 bits, by polynomials of degree 3, of at most 9 pieces that are tried.
	s.Begin()
	used, e := s.Build("sine", api.Sin, 0, dyad.From(0), -2, 8, 3, 9)
	version, _ := s.Commit()
	fmt.Println(used, e, version)

	// The power goes, and comes back.
	d.Crash(nil, -1, 0)
	s, _ = store.Open(d)

	// At 1/8, of the last version.
	a, e := s.Query(0, "sine", dyad.Half(-3))
	fmt.Println(zint.Text(a.Lo.M), a.Lo.E, zint.Text(a.Hi.M), a.Hi.E, e)

	// Output:
	// 1 0 1
	// 16341 -17 65367 -19 0
}
