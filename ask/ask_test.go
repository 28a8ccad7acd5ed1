package ask_test

import (
	"math"
	"testing"

	"astrolabe/api"
	"astrolabe/ask"
	"astrolabe/dyad"
	"astrolabe/iv"
	"astrolabe/zint"
)

func TestMay(t *testing.T) {
	for _, c := range []struct {
		x    api.Dy
		p    int
		want bool
	}{
		{dyad.From(7), 2, true}, {dyad.From(7), 50, true}, {dyad.From(7), 1, false}, {dyad.From(7), 51, false}, {dyad.From(7), math.MinInt, false},
		{dyad.From(8), 9, true}, {dyad.From(9), 9, false}, {api.Dy{}, 9, true}, {api.Dy{M: zint.From(-5), E: 131072}, 9, true},
		{api.Dy{M: zint.From(2)}, 9, false}, {api.Dy{E: 1}, 9, false}, {api.Dy{M: zint.From(1), E: math.MinInt}, 9, false},
	} {
		if got := ask.May(c.x, 3, c.p, 50); got != c.want {
			t.Error("May", c.x, c.p, got)
		}
	}
}

func TestAnswer(t *testing.T) {
	c, _ := iv.New(20)
	if a, e := ask.Answer(c, c.Point(dyad.From(13)), 3); e != api.OK || dyad.Cmp(a.Lo, dyad.From(12)) != 0 || dyad.Cmp(a.Hi, dyad.From(14)) != 0 {
		t.Error("13", a, e)
	}
	if a, e := ask.Answer(c, c.Int(1), 1); e != api.ErrArg || iv.Right(a) && dyad.Cmp(a.Hi, api.Dy{}) != 0 {
		t.Error("a precision", a, e)
	}
	far := api.Dy{M: zint.From(1), E: 131072}
	if a, e := ask.Answer(c, c.Point(far), 9); e != api.ErrRange || dyad.Cmp(a.Hi, api.Dy{}) != 0 {
		t.Error("beyond the range", a, e)
	}
	c.Div(c.Int(1), c.Int(0))
	if a, e := ask.Answer(c, api.Iv{Lo: far, Hi: far}, 9); e != api.ErrDomain || dyad.Cmp(a.Hi, api.Dy{}) != 0 {
		t.Error("the first error", a, e)
	}
}
