package rect

import (
	"math"
	"slices"
	"testing"

	"deedhold/api"
)

type tile struct{ x, y int }

// tiles: by the document's words, without the package's own help.
func tiles(r Rect) map[tile]int {
	l := map[tile]int{}
	if r.X < 0 || r.Y < 0 || r.W < 1 || r.H < 1 || r.X > 255 || r.Y > 255 || r.W > 256 || r.H > 256 || r.X+r.W > 256 || r.Y+r.H > 256 {
		return l
	}
	for y := r.Y; y < r.Y+r.H; y++ {
		for x := r.X; x < r.X+r.W; x++ {
			l[tile{x, y}] = 1
		}
	}
	return l
}

// samples are rectangles in a corner of the grid, right ones and others.
func samples(at int) []Rect {
	l := []Rect{{}, {-1, 0, 2, 2}, {0, -1, 2, 2}, {0, 0, 0, 3}, {0, 0, 3, -1}, {255, 0, 2, 1}, {0, 255, 1, 2}, {0, 256, 1, 1},
		{1, 1, math.MaxInt, 1}, {1, 1, 1, math.MaxInt}, {math.MaxInt, 0, 1, 1}, {math.MinInt, 0, math.MaxInt, 1}}
	for x := at; x < at+4; x++ {
		for y := at; y < at+4; y++ {
			for w := 1; x+w <= at+4; w++ {
				for h := 1; y+h <= at+4; h++ {
					l = append(l, Rect{x, y, w, h})
				}
			}
		}
	}
	return l
}

func TestRight(t *testing.T) { // P2.1
	for r, want := range map[Rect]bool{
		{}: false, {0, 0, 1, 1}: true, {255, 255, 1, 1}: true, {0, 0, 256, 256}: true, {1, 0, 256, 1}: false, {0, 1, 1, 256}: false,
		{256, 0, 1, 1}: false, {0, 256, 1, 1}: false, {-1, 0, 2, 2}: false, {0, -1, 2, 2}: false, {0, 0, 0, 1}: false, {0, 0, 1, 0}: false,
		{0, 0, math.MaxInt, 1}: false, {255, 0, math.MaxInt, 1}: false, {math.MaxInt, math.MaxInt, math.MaxInt, math.MaxInt}: false,
		{0, 0, math.MinInt, 1}: false, {math.MinInt, 0, 1, 1}: false,
	} {
		if r.Right() != want {
			t.Errorf("%v: %t", r, !want)
		}
	}
	if api.MaxGrid != 256 {
		t.Error("the samples are made for another grid")
	}
}

func TestTilesOfOne(t *testing.T) { // P2.1
	for _, r := range append(samples(0), samples(252)...) {
		want := tiles(r)
		if r.Area() != len(want) {
			t.Errorf("Area of %v: %d", r, r.Area())
		}
		var got, rows []tile
		for x, y := range r.Tiles() {
			got = append(got, tile{x, y})
		}
		for y := -1; y < 260; y++ {
			for x := -1; x < 260; x++ {
				if want[tile{x, y}] == 1 {
					rows = append(rows, tile{x, y})
				}
				if r.Holds(x, y) != (want[tile{x, y}] == 1) {
					t.Fatalf("%v holds %d, %d", r, x, y)
				}
			}
		}
		if !slices.Equal(got, rows) {
			t.Errorf("Tiles of %v: %v", r, got)
		}
	}
	n := 0
	for range (Rect{0, 0, 9, 9}).Tiles() {
		if n++; n == 5 {
			break
		}
	}
	if n != 5 {
		t.Errorf("Tiles stopped at %d", n)
	}
	if (Rect{1, 1, 2, 2}).Holds(math.MaxInt, math.MinInt) {
		t.Error("holds what lies far off")
	}
}

// box: the least rectangle of some tiles.
func box(l map[tile]int) Rect {
	if len(l) == 0 {
		return Rect{}
	}
	a, b, c, d := 999, 999, -1, -1
	for p := range l {
		a, b, c, d = min(a, p.x), min(b, p.y), max(c, p.x), max(d, p.y)
	}
	return Rect{a, b, c - a + 1, d - b + 1}
}

func TestTwo(t *testing.T) { // P2.2, P2.3
	for _, at := range []int{0, 252} {
		for _, r := range samples(at) {
			for _, o := range samples(at) {
				checkTwo(t, r, o)
			}
		}
	}
}

func checkTwo(t *testing.T, r, o Rect) {
	t.Helper()
	of, other := tiles(r), tiles(o)
	common, both, left := map[tile]int{}, map[tile]int{}, map[tile]int{}
	for p := range of {
		both[p] = 1
		if other[p] == 1 {
			common[p] = 1
		} else {
			left[p] = 1
		}
	}
	for p := range other {
		both[p] = 1
	}
	if r.Meets(o) != (len(common) > 0) || r.In(o) != (len(of) > 0 && len(common) == len(of)) {
		t.Errorf("%v, %v: Meets or In", r, o)
	}
	if c, ok := r.Common(o); ok != (len(common) > 0) || c != box(common) {
		t.Errorf("%v, %v: Common %v", r, o, c)
	}
	if r.Join(o) != box(both) || r.Growth(o) != box(both).Area()-len(of) {
		t.Errorf("%v, %v: Join %v, Growth %d", r, o, r.Join(o), r.Growth(o))
	}
	for _, p := range r.Cut(o) {
		if !p.Right() {
			t.Fatalf("%v, %v: Cut has %v", r, o, p)
		}
		for q := range tiles(p) {
			if left[q] != 1 {
				t.Fatalf("%v, %v: Cut %v", r, o, r.Cut(o))
			}
			delete(left, q)
		}
	}
	if len(left) != 0 {
		t.Errorf("%v, %v: Cut leaves %v", r, o, left)
	}
}

func TestCutOrder(t *testing.T) { // P2.3
	for _, c := range []struct {
		r, o Rect
		want []Rect
	}{
		{Rect{0, 0, 4, 4}, Rect{1, 1, 2, 2}, []Rect{{0, 0, 4, 1}, {0, 3, 4, 1}, {0, 1, 1, 2}, {3, 1, 1, 2}}},
		{Rect{0, 0, 4, 4}, Rect{0, 0, 4, 4}, nil},
		{Rect{1, 1, 2, 2}, Rect{0, 0, 4, 4}, nil},
		{Rect{0, 0, 4, 4}, Rect{4, 0, 4, 4}, []Rect{{0, 0, 4, 4}}},
		{Rect{0, 0, 4, 4}, Rect{0, 0, 0, 4}, []Rect{{0, 0, 4, 4}}},
		{Rect{0, 0, 0, 4}, Rect{0, 0, 4, 4}, nil},
		{Rect{2, 2, 4, 4}, Rect{0, 0, 3, 3}, []Rect{{2, 3, 4, 3}, {3, 2, 3, 1}}},
		{Rect{2, 2, 4, 4}, Rect{0, 3, 9, 1}, []Rect{{2, 2, 4, 1}, {2, 4, 4, 2}}},
		{Rect{2, 2, 4, 4}, Rect{3, 0, 1, 9}, []Rect{{2, 2, 1, 4}, {4, 2, 2, 4}}},
	} {
		if got := c.r.Cut(c.o); !slices.Equal(got, c.want) {
			t.Errorf("%v cut by %v: %v", c.r, c.o, got)
		}
	}
}

func TestQuarters(t *testing.T) { // P2.4
	if q := (Rect{10, 20, 4, 6}).Quarters(); q != [4]Rect{{10, 20, 2, 3}, {12, 20, 2, 3}, {10, 23, 2, 3}, {12, 23, 2, 3}} {
		t.Errorf("Quarters: %v", q)
	}
	if q := (Rect{0, 0, 256, 256}).Quarters(); q != [4]Rect{{0, 0, 128, 128}, {128, 0, 128, 128}, {0, 128, 128, 128}, {128, 128, 128, 128}} {
		t.Errorf("Quarters: %v", q)
	}
	for _, r := range []Rect{{}, {0, 0, 3, 2}, {0, 0, 2, 3}, {0, 0, 1, 1}, {-2, 0, 4, 4}, {254, 0, 4, 4}, {0, 0, 2, math.MinInt}} {
		if r.Quarters() != [4]Rect{} {
			t.Errorf("Quarters of %v: %v", r, r.Quarters())
		}
	}
}
