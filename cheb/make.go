package cheb

import (
	"slices"

	"astrolabe/api"
	"astrolabe/dyad"
	"astrolabe/fun"
)

// grid is what all pieces of a degree have in common.
type grid struct {
	degree int
	nodes  []api.Dy
	// polynomials are Chebyshev's, at each node: first by their number.
	polynomials [][]api.Iv
}

// newGrid is the grid of degree d, which may be none.
func newGrid(d int) (grid, api.Errno) {
	if !within(d, 1, api.MaxDegree) {
		return grid{}, api.ErrArg
	}
	g := grid{degree: d, polynomials: make([][]api.Iv, d+1)}
	c := fine()
	for j := range d + 1 {
		node, e := Node(j, d)
		if e != api.OK {
			return grid{}, e
		}
		g.nodes = append(g.nodes, node)
		point := c.Point(node)
		last, next := c.Int(1), point
		for k := range d + 1 {
			g.polynomials[k] = append(g.polynomials[k], last)
			last, next = next, c.Sub(c.Mul(c.Scale(point, 1), next), last)
		}
	}
	return g, c.Err()
}

// task is a function of an order.
type task struct{ f, n int }

// clipped is x without spare room behind its digits.
func clipped(x api.Dy) api.Dy {
	x.M.Mag = slices.Clip(x.M.Mag)
	return x
}

// Make is the piece of degree d over the stretch from a on, 2^w wide.
func Make(f, n int, a api.Dy, w, d int) (api.Piece, api.Errno) {
	g, e := newGrid(d)
	if e != api.OK {
		return api.Piece{}, e
	}
	return task{f, n}.piece(stretch{clipped(a), w}, g)
}

// piece is Make, the grid being known.
func (t task) piece(s stretch, g grid) (api.Piece, api.Errno) {
	if !within(s.w, minWide, maxWide) || !plain(s.a) {
		return api.Piece{}, api.ErrArg
	}
	slope, e := fun.Slope(t.f, t.n, s.a, end(s.a, s.w), g.degree+1)
	if e != api.OK {
		return api.Piece{}, e
	}
	places, values, e := t.values(s, g)
	if e != api.OK {
		return api.Piece{}, e
	}
	p := api.Piece{A: s.a, W: s.w}
	p.C, e = numbers(values, g)
	if e != api.OK {
		return api.Piece{}, e
	}
	off, e := farthest(p, places, values)
	if e != api.OK {
		return api.Piece{}, e
	}
	left, e := remainder(slope, s.w, g.degree)
	if e != api.OK {
		return api.Piece{}, e
	}
	p.Err, e = together(left, off)
	if e != api.OK {
		return api.Piece{}, e
	}
	return p, api.OK
}

// values are the nodes' places in a stretch, and what the function is there.
func (t task) values(s stretch, g grid) (places []api.Dy, values []api.Iv, e api.Errno) {
	middle, e := dyad.Add(s.a, dyad.Half(s.w-1))
	if e != api.OK {
		return nil, nil, e
	}
	for _, node := range g.nodes {
		off, e := dyad.Scale(node, s.w-1)
		if e != api.OK {
			return nil, nil, e
		}
		x, e := dyad.Add(middle, off)
		if e != api.OK {
			return nil, nil, e
		}
		y, e := fun.Eval(t.f, t.n, x, nodePrec)
		if e != api.OK {
			return nil, nil, e
		}
		places, values = append(places, x), append(values, y)
	}
	return places, values, api.OK
}

// numbers are the polynomial's, by which it goes through the middles of the values.
func numbers(values []api.Iv, g grid) ([]api.Dy, api.Errno) {
	c := fine()
	var l []api.Dy
	for k, polynomial := range g.polynomials {
		sum := c.Int(0)
		for j, y := range values {
			sum = c.Add(sum, c.Mul(c.Point(c.Mid(y)), polynomial[j]))
		}
		sum = c.Div(sum, c.Int(g.degree+1))
		if k > 0 {
			sum = c.Scale(sum, 1)
		}
		l = append(l, c.Mid(sum))
	}
	if c.Err() != api.OK {
		return nil, c.Err()
	}
	return l, api.OK
}

// farthest is by how much the piece is off at most at the places.
func farthest(p api.Piece, places []api.Dy, values []api.Iv) (api.Dy, api.Errno) {
	c := fine()
	var most api.Dy
	for j, x := range places {
		a, e := Value(p, x)
		if e != api.OK {
			return api.Dy{}, e
		}
		off := c.Sub(values[j], a)
		for _, y := range []api.Dy{size(off.Lo), size(off.Hi)} {
			if dyad.Cmp(y, most) > 0 {
				most = y
			}
		}
	}
	if c.Err() != api.OK {
		return api.Dy{}, c.Err()
	}
	return most, api.OK
}

// remainder is by how much a polynomial of degree d through the very values is off at most, by the slope of the next order.
func remainder(slope api.Dy, w, d int) (api.Dy, api.Errno) {
	scaled, e := dyad.Scale(slope, (w-1)*(d+1)+1-d)
	if e != api.OK {
		return api.Dy{}, e
	}
	factorial := 1
	for i := range d + 1 {
		factorial *= i + 1
	}
	return dyad.Div(scaled, dyad.From(factorial), nodePrec, true)
}

// together is the remainder, and what the values' errors may become between the places: less than 4 times as much, up to degree 16.
func together(remainder, off api.Dy) (api.Dy, api.Errno) {
	more, e := dyad.Scale(off, 2)
	if e != api.OK {
		return api.Dy{}, e
	}
	sum, e := dyad.Add(remainder, more)
	if e != api.OK {
		return api.Dy{}, e
	}
	return dyad.Round(sum, nodePrec, true)
}

// queue are stretches that wait, the last one being the next.
type queue struct{ l []stretch }

// add lets stretches wait, the last of them to be taken first.
func (q *queue) add(l ...stretch) { q.l = append(q.l, l...) }

// take is the next one, which waits no more.
func (q *queue) take() stretch {
	last := len(q.l) - 1
	s := q.l[last]
	q.l = q.l[:last]
	return s
}

// Build is a table of the function f, of order n, from a on, 2^w wide, to p bits, of pieces of degree d; each piece that is tried uses one of fuel.
func Build(f, n int, a api.Dy, w, p, d, fuel int) (t api.Table, used int, e api.Errno) {
	if !within(p, minTarget, api.MaxTarget) || fuel < 0 {
		return api.Table{}, 0, api.ErrArg
	}
	if fuel == 0 {
		// Ahead of what a stretch, or a degree, may be wrong with.
		return api.Table{}, 0, api.ErrFuel
	}
	g, e := newGrid(d)
	if e != api.OK {
		return api.Table{}, 0, e
	}
	a = clipped(a)
	pieces, used, e := task{f, n}.pieces(stretch{a, w}, g, p, fuel)
	if e == api.ErrFuel {
		return api.Table{}, used, e
	}
	if e != api.OK {
		return api.Table{}, 0, e
	}
	return api.Table{Fun: f, Order: n, A: a, W: w, Prec: p, Degree: d, Pieces: pieces}, used, api.OK
}

// pieces are those of a stretch, to p bits, from the left on.
func (t task) pieces(s stretch, g grid, p, fuel int) (l []api.Piece, used int, e api.Errno) {
	var waiting queue
	for waiting.add(s); len(waiting.l) > 0; {
		if used == fuel {
			return nil, used, api.ErrFuel
		}
		used++
		next := waiting.take()
		piece, e := t.piece(next, g)
		switch {
		case e != api.OK:
			return nil, used, e
		case dyad.Cmp(piece.Err, dyad.Half(-p-2)) <= 0:
			l = append(l, piece)
		case next.w == minWide:
			return nil, used, api.ErrFuel
		default:
			left, right := next.halves()
			waiting.add(right, left)
		}
		if len(l) > api.MaxPieces {
			return nil, used, api.ErrFuel
		}
	}
	return l, used, api.OK
}
