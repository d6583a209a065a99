package quad

import (
	"bytes"
	"math"
	"slices"
	"testing"

	"deedhold/api"
	"deedhold/rect"
)

// model has the value of each tile, row by row.
type model struct {
	side int
	v    []int
}

func (m model) only(r rect.Rect) (int, bool) {
	value, some := 0, false
	for x, y := range r.Tiles() {
		if x >= m.side || y >= m.side {
			continue
		}
		if v := m.v[y*m.side+x]; some && v != value {
			return 0, false
		} else {
			value, some = v, true
		}
	}
	return value, some
}

type leaf struct {
	r rect.Rect
	v int
}

// squares tells the leaves, and the bytes, by the document's words.
func (m model) squares(r rect.Rect) ([]leaf, []byte, int) {
	if v, ok := m.only(r); ok {
		return []leaf{{r, v}}, []byte{0, byte(v)}, 1
	}
	var l []leaf
	b, n := []byte{1}, 1
	for _, q := range r.Quarters() {
		k, c, o := m.squares(q)
		l, b, n = append(l, k...), append(b, c...), n+o
	}
	return l, b, n
}

func check(t *testing.T, q *Quad, m model) {
	t.Helper()
	l, b, n := m.squares(rect.Rect{W: m.side, H: m.side})
	var got []leaf
	for r, v := range q.Squares() {
		got = append(got, leaf{r, v})
	}
	if !slices.Equal(got, l) || !bytes.Equal(q.Bytes(), b) || q.Nodes() != n || q.Side() != m.side {
		t.Fatalf("Squares %v, Bytes %x, Nodes %d; want %v, %x, %d", got, q.Bytes(), q.Nodes(), l, b, n)
	}
	for v := -1; v < 5; v++ {
		want := 0
		for _, w := range m.v {
			if w == v {
				want++
			}
		}
		if q.Count(v) != want {
			t.Fatalf("Count(%d): %d", v, q.Count(v))
		}
	}
	for y := -1; y <= m.side; y++ {
		for x := -1; x <= m.side; x++ {
			in := x >= 0 && y >= 0 && x < m.side && y < m.side
			if v, ok := q.At(x, y); ok != in || in && v != m.v[y*m.side+x] || !in && v != 0 {
				t.Fatalf("At(%d, %d): %d, %t", x, y, v, ok)
			}
		}
	}
	p, ok := Parse(b, m.side)
	if !ok || !p.Equal(q) || !q.Equal(p) {
		t.Fatal("Parse of its bytes")
	}
}

func TestNew(t *testing.T) { // P15.1
	for side := -1; side < 600; side++ {
		want := side > 0 && side <= 256 && 256%side == 0
		if q := New(side); (q != nil) != want || want && q.Side() != side {
			t.Errorf("New(%d)", side)
		}
	}
	if New(math.MaxInt) != nil || New(math.MinInt) != nil || New(1<<40) != nil {
		t.Error("New, far off")
	}
}

func TestModel(t *testing.T) { // P15.1, P15.2, P15.3
	for _, side := range []int{1, 2, 4, 8, 32} {
		q, m, seed := New(side), model{side, make([]int, side*side)}, uint32(side)
		next := func(n int) int {
			seed = seed*1664525 + 1013904223
			return int(seed>>8) % n
		}
		check(t, q, m)
		for i := range 300 {
			r := rect.Rect{X: next(side+2) - 1, Y: next(side+2) - 1, W: next(side + 2), H: next(side + 2)}
			v := next(4)
			if i%3 == 0 {
				r = rect.Rect{X: next(side), Y: next(side), W: 1, H: 1}
			}
			want := api.OK
			if !r.Right() || r.X+r.W > side || r.Y+r.H > side {
				want = api.ErrRange
			} else {
				for x, y := range r.Tiles() {
					m.v[y*side+x] = v
				}
			}
			was := q.Copy()
			if e := q.Set(r, v); e != want {
				t.Fatalf("Set(%v): %d", r, e)
			}
			if was.Equal(q) != bytes.Equal(was.Bytes(), q.Bytes()) {
				t.Fatal("Equal")
			}
			check(t, q, m)
			r.X, r.Y = max(r.X, 0), max(r.Y, 0)
			only, ok := m.only(r)
			if a, b := q.Only(r); a != only || b != ok {
				t.Fatalf("Only(%v): %d, %t; want %d, %t", r, a, b, only, ok)
			}
			for v := -1; v < 5; v++ {
				any := false
				for x, y := range r.Tiles() {
					any = any || x < side && y < side && m.v[y*side+x] == v
				}
				if q.Any(r, v) != any {
					t.Fatalf("Any(%v, %d): %t", r, v, !any)
				}
			}
		}
	}
}

func TestEdges(t *testing.T) { // P15.1, P15.2
	q := New(4)
	one := rect.Rect{W: 2, H: 2}
	for _, c := range []struct {
		r rect.Rect
		v int
		e api.Errno
	}{{one, 256, api.ErrRange}, {one, -1, api.ErrRange}, {one, math.MinInt, api.ErrRange}, {rect.Rect{W: 5, H: 1}, 1, api.ErrRange}, {rect.Rect{}, 1, api.ErrRange},
		{rect.Rect{X: 4, W: 1, H: 1}, 1, api.ErrRange}, {rect.Rect{W: math.MaxInt, H: 1}, 1, api.ErrRange}, {one, 255, api.OK}, {one, 1, api.OK}} {
		if e := q.Set(c.r, c.v); e != c.e {
			t.Errorf("Set(%v, %d): %d", c.r, c.v, e)
		}
	}
	if string(q.Bytes()) != "\x01\x00\x01\x00\x00\x00\x00\x00\x00" || q.Nodes() != 5 {
		t.Errorf("the example: %x", q.Bytes())
	}
	if q.Any(rect.Rect{X: 4, W: 9, H: 9}, 0) || q.Any(rect.Rect{}, 0) || q.Any(rect.Rect{X: -1, W: 2, H: 1}, 1) || !q.Any(rect.Rect{X: 1, W: 99, H: 99}, 1) || q.Any(one, math.MaxInt) {
		t.Error("Any")
	}
	for _, r := range []rect.Rect{{}, {X: 4, W: 9, H: 9}, {X: 1, W: 2, H: 1}, {W: math.MaxInt, H: math.MaxInt}} {
		if v, ok := q.Only(r); v != 0 || ok {
			t.Errorf("Only(%v): %d, %t", r, v, ok)
		}
	}
	if v, ok := q.Only(rect.Rect{X: 3, W: 200, H: 200}); v != 0 || !ok {
		t.Error("Only, past the side")
	}
	if v, ok := q.At(math.MinInt, math.MaxInt); v != 0 || ok {
		t.Error("At, far off")
	}
	n := 0
	for range q.Squares() {
		if n++; n == 2 {
			break
		}
	}
	if n != 2 {
		t.Error("Squares, as far as it is asked")
	}
}

func TestGreatest(t *testing.T) { // P15.1: the last tiles of the greatest side
	q := New(256)
	q.Set(rect.Rect{X: 255, Y: 255, W: 1, H: 1}, 7)
	q.Set(rect.Rect{X: 254, Y: 0, W: 1, H: 1}, 8)
	for p, want := range map[[2]int]int{{255, 255}: 7, {254, 255}: 0, {255, 254}: 0, {254, 0}: 8, {253, 0}: 0, {255, 0}: 0} {
		if v, ok := q.At(p[0], p[1]); v != want || !ok {
			t.Errorf("At %v: %d, %t", p, v, ok)
		}
	}
	for _, p := range [][2]int{{256, 255}, {255, 256}, {-1, 0}, {0, -1}} {
		if v, ok := q.At(p[0], p[1]); v != 0 || ok {
			t.Errorf("At %v: %d, %t", p, v, ok)
		}
	}
}

func TestParse(t *testing.T) { // P15.3
	for name, c := range map[string]struct {
		b    string
		side int
	}{
		"nothing": {"", 4}, "half a leaf": {"\x00", 4}, "a byte more": {"\x00\x01\x00", 4}, "another kind": {"\x02\x00", 4}, "quarters of a tile": {"\x01\x00\x01\x00\x02\x00\x03\x00\x04", 1},
		"four leaves of one value": {"\x01\x00\x07\x00\x07\x00\x07\x00\x07", 4}, "three quarters": {"\x01\x00\x01\x00\x02\x00\x03", 4}, "no side": {"\x00\x00", 3}, "a side too great": {"\x00\x00", 512},
		"a side of nought": {"\x00\x00", 0}, "quarters of a tile, deeper": {"\x01\x01\x00\x01\x00\x02\x00\x03\x00\x04\x00\x02\x00\x03\x00\x04", 2}, "four of one value, deeper": {"\x01\x00\x01\x00\x01\x00\x01\x01\x00\x01\x00\x01\x00\x01\x00\x01", 4},
	} {
		if q, ok := Parse([]byte(c.b), c.side); ok || q != nil {
			t.Errorf("%s", name)
		}
	}
	deep := bytes.Repeat([]byte{1}, 1<<20)
	if _, ok := Parse(deep, 256); ok {
		t.Error("very deep")
	}
	b := []byte("\x01\x00\x01\x00\x02\x00\x03\x00\xff")
	q, ok := Parse(b, 2)
	clear(b)
	if v, _ := q.At(1, 1); !ok || v != 255 {
		t.Error("a right one")
	}
	clear(q.Bytes())
	if v, _ := q.At(0, 1); v != 3 {
		t.Error("Bytes tells its own memory")
	}
	if New(2).Equal(New(4)) || !New(4).Equal(New(4)) {
		t.Error("Equal")
	}
}

func TestCopy(t *testing.T) { // P15.3
	q := New(16)
	q.Set(rect.Rect{X: 3, Y: 3, W: 5, H: 5}, 9)
	c, was := q.Copy(), q.Bytes()
	c.Set(rect.Rect{X: 4, Y: 4, W: 1, H: 1}, 1)
	c.Set(rect.Rect{W: 16, H: 16}, 2)
	if !bytes.Equal(q.Bytes(), was) || c.Equal(q) || c.Nodes() != 1 {
		t.Error("a copy shares with the first one")
	}
}
