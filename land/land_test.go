package land

import (
	"maps"
	"math"
	"slices"
	"testing"

	"deedhold/api"
	"deedhold/rect"
)

func is(t *testing.T, what string, e, want api.Errno) {
	t.Helper()
	if e != want {
		t.Errorf("%s: %d, want %d", what, e, want)
	}
}

func newLand(t *testing.T, side int, stones ...rect.Rect) *Land {
	t.Helper()
	l, e := New(side, stones)
	if e != api.OK {
		t.Fatalf("New: %d", e)
	}
	return l
}

func TestNew(t *testing.T) { // P19.1
	for side := -1; side < 600; side++ {
		l, e := New(side, nil)
		want := side >= 16 && side <= 256 && 256%side == 0
		if want && (e != api.OK || l.Side() != side || l.Len() != 0 || l.Area() != 0) || !want && (e != api.ErrRange || l != nil) {
			t.Errorf("New(%d): %d", side, e)
		}
	}
	for _, r := range []rect.Rect{{}, {X: 15, W: 2, H: 1}, {Y: 16, W: 1, H: 1}, {X: -1, W: 2, H: 2}, {W: 17, H: 1}, {W: math.MaxInt, H: 1}} {
		if l, e := New(16, []rect.Rect{{W: 1, H: 1}, r}); l != nil || e != api.ErrRange {
			t.Errorf("blocked %v: %d", r, e)
		}
	}
	if _, e := New(math.MinInt, nil); e != api.ErrRange {
		t.Error("a side far off")
	}
}

func TestStones(t *testing.T) { // P19.1
	stones := []rect.Rect{{X: 1, Y: 1, W: 5, H: 3}, {X: 4, Y: 2, W: 6, H: 6}, {X: 1, Y: 1, W: 5, H: 3}, {X: 15, Y: 15, W: 1, H: 1}}
	l := newLand(t, 16, stones...)
	tiles := map[[2]int]int{}
	for r := range l.Stones() {
		for x, y := range r.Tiles() {
			if tiles[[2]int{x, y}]++; tiles[[2]int{x, y}] > 1 {
				t.Errorf("the tile %d, %d twice", x, y)
			}
		}
	}
	for y := -1; y < 18; y++ {
		for x := -1; x < 18; x++ {
			want := slices.ContainsFunc(stones, func(r rect.Rect) bool { return r.Holds(x, y) })
			if l.Blocked(rect.Rect{X: x, Y: y, W: 1, H: 1}) != want || (tiles[[2]int{x, y}] == 1) != want {
				t.Errorf("the tile %d, %d", x, y)
			}
		}
	}
	if !l.Blocked(rect.Rect{W: 200, H: 200}) || l.Blocked(rect.Rect{W: 16, H: 1}) || l.Blocked(rect.Rect{}) || l.Blocked(rect.Rect{X: 16, Y: 16, W: 9, H: 9}) {
		t.Error("Blocked")
	}
	n := 0
	for range l.Stones() {
		n++
		break
	}
	if n != 1 {
		t.Error("Stones, as far as it is asked")
	}
}

func TestClaim(t *testing.T) { // P19.2
	l := newLand(t, 32, rect.Rect{X: 20, Y: 20, W: 1, H: 1})
	is(t, "Claim", l.Claim(1, rect.Rect{W: 4, H: 4}), api.OK)
	is(t, "Claim", l.Claim(2, rect.Rect{X: 3, Y: 3, W: 2, H: 2}), api.ErrCollide)
	is(t, "Claim", l.Claim(2, rect.Rect{X: 4, W: 2, H: 2}), api.OK)
	for name, c := range map[string]struct {
		id int
		r  rect.Rect
		e  api.Errno
	}{
		"id 0":              {0, rect.Rect{}, api.ErrForm},
		"id below 0":        {math.MinInt, rect.Rect{X: 9, W: 1, H: 1}, api.ErrForm},
		"id twice":          {2, rect.Rect{}, api.ErrTwice},
		"no rectangle":      {3, rect.Rect{}, api.ErrRange},
		"out of the square": {3, rect.Rect{X: 31, W: 2, H: 1}, api.ErrRange},
		"out of it, met":    {3, rect.Rect{X: 0, Y: 0, W: 33, H: 1}, api.ErrRange},
		"too wide":          {3, rect.Rect{X: 9, W: 17, H: 1}, api.ErrRange},
		"too high":          {3, rect.Rect{X: 9, W: 1, H: 17}, api.ErrRange},
		"blocked":           {3, rect.Rect{X: 10, Y: 10, W: 11, H: 11}, api.ErrBlocked},
		"far off":           {3, rect.Rect{X: math.MaxInt, W: 1, H: 1}, api.ErrRange},
	} {
		is(t, name, l.Claim(c.id, c.r), c.e)
		if c.id == 3 {
			is(t, name, l.May(c.r), c.e)
		}
	}
	is(t, "as wide as may be", l.Claim(math.MaxInt, rect.Rect{X: 4, Y: 4, W: 16, H: 16}), api.OK)
	is(t, "blocked, and met", l.May(rect.Rect{X: 19, Y: 19, W: 2, H: 2}), api.ErrBlocked)
	if l.Len() != 3 || l.Area() != 16+4+256 {
		t.Errorf("Len %d, Area %d", l.Len(), l.Area())
	}
	is(t, "Free", l.Free(1), api.OK)
	is(t, "Free", l.Free(1), api.ErrNone)
	is(t, "Free", l.Free(math.MinInt), api.ErrNone)
	is(t, "Claim", l.Claim(7, rect.Rect{X: 3, Y: 3, W: 1, H: 1}), api.OK)
}

func TestMany(t *testing.T) { // P19.2
	l := newLand(t, 256, rect.Rect{X: 255, Y: 255, W: 1, H: 1})
	for i := range 256 {
		is(t, "Claim", l.Claim(i+1, rect.Rect{X: i, W: 1, H: 2}), api.OK)
	}
	is(t, "one more", l.Claim(300, rect.Rect{Y: 2, W: 1, H: 1}), api.ErrMany)
	is(t, "one more", l.May(rect.Rect{Y: 2, W: 1, H: 1}), api.ErrMany)
	is(t, "one that meets another one", l.May(rect.Rect{Y: 1, W: 1, H: 1}), api.ErrCollide)
	is(t, "blocked", l.May(rect.Rect{X: 255, Y: 255, W: 1, H: 1}), api.ErrBlocked)
	is(t, "Free", l.Free(9), api.OK)
	is(t, "one more", l.Claim(300, rect.Rect{Y: 2, W: 1, H: 1}), api.OK)
}

func TestFinding(t *testing.T) { // P19.3
	l, m, seed := newLand(t, 64), map[int]rect.Rect{}, uint32(5)
	next := func(n int) int {
		seed = seed*1664525 + 1013904223
		return int(seed>>8) % n
	}
	for range 1500 {
		id, r := next(60)+1, rect.Rect{X: next(64), Y: next(64), W: next(6) + 1, H: next(6) + 1}
		if next(3) == 0 {
			if _, ok := m[id]; (l.Free(id) == api.OK) != ok {
				t.Fatal("Free")
			}
			delete(m, id)
		} else if l.Claim(id, r) == api.OK {
			m[id] = r
		}
		var near, all []int
		area := 0
		for _, id := range slices.Sorted(maps.Keys(m)) {
			if area += m[id].Area(); m[id].Meets(r) {
				near = append(near, id)
			}
		}
		for id, r := range l.All() {
			if all = append(all, id); m[id] != r {
				t.Fatal("All")
			}
		}
		if !slices.Equal(l.Near(r), near) || !slices.Equal(all, slices.Sorted(maps.Keys(m))) || l.Len() != len(m) || l.Area() != area {
			t.Fatalf("Near %v, want %v", l.Near(r), near)
		}
		at, ok := l.At(r.X, r.Y)
		if ok != m[at].Holds(r.X, r.Y) || !ok && at != 0 || !ok && len(near) > 0 && m[near[0]].Holds(r.X, r.Y) {
			t.Fatalf("At: %d, %t", at, ok)
		}
		p, ok := l.Plot(id)
		if q, there := m[id]; p != q || ok != there {
			t.Fatalf("Plot(%d): %v", id, p)
		}
	}
	if id, ok := l.At(-1, 64); id != 0 || ok || len(l.Near(rect.Rect{})) != 0 {
		t.Error("nowhere")
	}
	n := 0
	for range l.All() {
		n++
		break
	}
	if n != 1 {
		t.Error("All, as far as it is asked")
	}
}

func TestCopy(t *testing.T) { // P19.3
	l := newLand(t, 16)
	l.Claim(1, rect.Rect{W: 2, H: 2})
	c := l.Copy()
	c.Claim(2, rect.Rect{X: 4, W: 2, H: 2})
	c.Free(1)
	if l.Len() != 1 || c.Len() != 1 || l.May(rect.Rect{X: 4, W: 2, H: 2}) != api.OK || c.May(rect.Rect{W: 2, H: 2}) != api.OK {
		t.Error("a copy shares with the first one")
	}
	stones := []rect.Rect{{X: 8, W: 1, H: 1}}
	k := newLand(t, 16, stones...)
	stones[0] = rect.Rect{}
	if !k.Copy().Blocked(rect.Rect{X: 8, W: 1, H: 1}) {
		t.Error("what is blocked")
	}
}
