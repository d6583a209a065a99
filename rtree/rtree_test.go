package rtree

import (
	"math"
	"math/bits"
	"slices"
	"testing"

	"deedhold/api"
	"deedhold/rect"
)

type thing struct {
	r rect.Rect
	v int
}

func order(a, b thing) int {
	for _, d := range []int{a.v - b.v, a.r.X - b.r.X, a.r.Y - b.r.Y, a.r.W - b.r.W, a.r.H - b.r.H} {
		if d != 0 {
			return d
		}
	}
	return 0
}

func sorted(l []thing) []thing {
	slices.SortFunc(l, order)
	return l
}

func told(seq func(func(rect.Rect, int) bool)) []thing {
	var l []thing
	for r, v := range seq {
		l = append(l, thing{r, v})
	}
	return sorted(l)
}

func having(m []thing, is func(thing) bool) []thing {
	var l []thing
	for _, x := range m {
		if is(x) {
			l = append(l, x)
		}
	}
	return sorted(l)
}

func check(t *testing.T, tree *Tree[int], m []thing, asked rect.Rect) {
	t.Helper()
	if !tree.Check() || tree.Len() != len(m) {
		t.Fatalf("Check %t, Len %d; want %d", tree.Check(), tree.Len(), len(m))
	}
	if leaves, ok := shape(tree.root, true); !ok || len(leaves) > 1 || len(m) > 0 && leaves[tree.Deep()] == 0 {
		t.Fatalf("its shape: leaves at %v", leaves)
	}
	if n := len(m); tree.Deep() < 1 || n >= 2 && tree.Deep() > bits.Len(uint(n)) || n < 2 && tree.Deep() != 1 {
		t.Fatalf("Deep %d, of %d", tree.Deep(), n)
	}
	var all rect.Rect
	for _, x := range m {
		all = all.Join(x.r)
	}
	if b, ok := tree.Bounds(); b != all || ok != (len(m) > 0) {
		t.Fatalf("Bounds %v, want %v", b, all)
	}
	meets := having(m, func(x thing) bool { return x.r.Meets(asked) })
	if !slices.Equal(told(tree.Meets(asked)), meets) || tree.Any(asked) != (len(meets) > 0) {
		t.Fatalf("Meets(%v): %v, want %v", asked, told(tree.Meets(asked)), meets)
	}
	at := having(m, func(x thing) bool { return x.r.Holds(asked.X, asked.Y) })
	if !slices.Equal(told(tree.At(asked.X, asked.Y)), at) {
		t.Fatalf("At(%d, %d)", asked.X, asked.Y)
	}
	if !slices.Equal(told(tree.All()), sorted(slices.Clone(m))) {
		t.Fatal("All")
	}
}

// shape tells at which depths leaves lie, and whether all nodes are as the document has them.
func shape(n *node[int], root bool) (map[int]int, bool) {
	leaves, ok := map[int]int{}, len(n.entries) <= 4 && (root || len(n.entries) >= 2)
	for _, e := range n.entries {
		if e.kid == nil {
			leaves[1]++
			continue
		}
		var all rect.Rect
		for _, x := range e.kid.entries {
			all = all.Join(x.box)
		}
		below, right := shape(e.kid, false)
		for depth, k := range below {
			leaves[depth+1] += k
		}
		ok = ok && right && all == e.box && len(n.entries) >= 2
	}
	return leaves, ok
}

func TestCheck(t *testing.T) { // P14.3: Check of trees that are wrong inside
	for name, change := range map[string]func(tree *Tree[int]){
		"nothing":         func(tree *Tree[int]) {},
		"another count":   func(tree *Tree[int]) { tree.count++ },
		"another height":  func(tree *Tree[int]) { tree.height++ },
		"a lesser height": func(tree *Tree[int]) { tree.height-- },
		"a wrong box":     func(tree *Tree[int]) { tree.root.entries[0].box.W++ },
		"one child": func(tree *Tree[int]) {
			tree.count -= len(tree.root.entries[0].kid.entries)
			tree.root.entries = tree.root.entries[1:]
		},
		"one thing": func(tree *Tree[int]) {
			kid := tree.root.entries[0].kid
			tree.count -= len(kid.entries) - 1
			kid.entries = kid.entries[:1]
			tree.root.entries[0].box = kid.box()
		},
		"five things": func(tree *Tree[int]) {
			kid := tree.root.entries[0].kid
			for len(kid.entries) < 5 {
				kid.entries = append(kid.entries, kid.entries[0])
				tree.count++
			}
		},
		"a leaf too high": func(tree *Tree[int]) {
			tree.root.entries[0] = entry[int]{box: tree.root.entries[0].kid.entries[0].box}
			tree.count -= 1
		},
		"a leaf too deep": func(tree *Tree[int]) {
			kid := tree.root.entries[0].kid
			tree.root.entries[0].kid = &node[int]{[]entry[int]{{box: kid.box(), kid: kid}, {box: kid.box(), kid: kid}}}
			tree.count += len(kid.entries)
		},
		"a thing of no tile": func(tree *Tree[int]) {
			tree.root.entries[0].kid.entries[0].box = rect.Rect{}
			tree.root.entries[0].box = tree.root.entries[0].kid.box()
		},
	} {
		tree := New[int]()
		for i := range 6 {
			tree.Insert(rect.Rect{X: 10 * i, W: 2, H: 2}, i)
		}
		if tree.Deep() != 2 || len(tree.root.entries) != 2 {
			t.Fatal("another shape than the changes are made for")
		}
		change(tree)
		if tree.Check() != (name == "nothing") {
			t.Errorf("%s: Check", name)
		}
	}
}

func TestModel(t *testing.T) { // P14.1, P14.2, P14.3
	for _, side := range []int{3, 20, 256} {
		tree, m, seed := New[int](), []thing{}, uint32(side)
		next := func(n int) int {
			seed = seed*1664525 + 1013904223
			return int(seed>>8) % n
		}
		check(t, tree, m, rect.Rect{W: 1, H: 1})
		for i := range 3000 {
			x := thing{rect.Rect{X: next(side+2) - 1, Y: next(side+2) - 1, W: next(9), H: next(9)}, next(4)}
			if len(m) > 0 && next(2) == 0 {
				x = m[next(len(m))]
			}
			at := slices.Index(m, x)
			var e, want api.Errno
			if grow := i/400%2 == 0; next(5) < 2 != grow {
				e = tree.Insert(x.r, x.v)
				if !x.r.Right() {
					want = api.ErrRange
				} else if at >= 0 {
					want = api.ErrTwice
				} else {
					m = append(m, x)
				}
			} else {
				e = tree.Delete(x.r, x.v)
				if at < 0 {
					want = api.ErrNone
				} else {
					m = slices.Delete(m, at, at+1)
				}
			}
			if e != want {
				t.Fatalf("%v: %d, want %d", x, e, want)
			}
			if i%5 == 0 || len(m) < 12 {
				check(t, tree, m, x.r)
			}
		}
		for len(m) > 0 {
			x := m[next(len(m))]
			if tree.Delete(x.r, x.v) != api.OK {
				t.Fatal("Delete of what is there")
			}
			m = slices.DeleteFunc(m, func(y thing) bool { return x == y })
			check(t, tree, m, x.r)
		}
	}
}

func TestThousand(t *testing.T) { // P14.3
	tree := New[int]()
	for i := range 1000 {
		if tree.Insert(rect.Rect{X: i % 32 * 8, Y: i / 32 * 8, W: 4, H: 4}, i) != api.OK {
			t.Fatal("Insert")
		}
	}
	if !tree.Check() || tree.Deep() > 10 {
		t.Errorf("Deep %d", tree.Deep())
	}
	n := 0
	for r, v := range tree.At(9, 3) {
		if n++; v != 1 || r != (rect.Rect{X: 8, W: 4, H: 4}) {
			t.Error("At")
		}
	}
	for range tree.All() {
		if n++; n == 5 {
			break
		}
	}
	for range tree.Meets(rect.Rect{W: 256, H: 256}) {
		if n++; n == 9 {
			break
		}
	}
	if n != 9 {
		t.Errorf("as far as it is asked: %d", n)
	}
}

func TestOneRectangle(t *testing.T) { // P14.1: many things with one, one thing with many
	tree := New[string]()
	r := rect.Rect{X: 5, Y: 5, W: 2, H: 2}
	for i := range 100 {
		v := string(rune('a' + i%26))
		want := api.OK
		if i >= 26 {
			want = api.ErrTwice
		}
		if tree.Insert(r, v) != want {
			t.Fatalf("Insert of %d", i)
		}
	}
	for x := range 100 {
		if tree.Insert(rect.Rect{X: x, Y: 5, W: 2, H: 1}, "a") != api.OK {
			t.Fatal("one thing with many")
		}
	}
	if tree.Len() != 126 || !tree.Check() || tree.Delete(r, "A") != api.ErrNone || tree.Delete(rect.Rect{X: 5, Y: 5, W: 2, H: 3}, "a") != api.ErrNone {
		t.Error("what is there")
	}
}

func TestWrong(t *testing.T) { // P14.1, P14.2
	tree := New[int]()
	tree.Insert(rect.Rect{W: 256, H: 256}, 1)
	for _, r := range []rect.Rect{{}, {X: -1, W: 5, H: 5}, {X: 250, W: 7, H: 1}, {W: math.MaxInt, H: 1}, {X: math.MinInt, Y: math.MaxInt, W: math.MaxInt, H: math.MaxInt}} {
		if tree.Insert(r, 1) != api.ErrRange || tree.Delete(r, 1) != api.ErrNone || tree.Any(r) || len(told(tree.Meets(r))) > 0 || tree.Len() != 1 {
			t.Errorf("%v", r)
		}
	}
	for _, p := range [][2]int{{-1, 0}, {0, 256}, {math.MaxInt, 0}, {math.MinInt, math.MinInt}} {
		if len(told(tree.At(p[0], p[1]))) > 0 {
			t.Errorf("At(%d, %d)", p[0], p[1])
		}
	}
}

func TestCopy(t *testing.T) { // P14.3
	tree := New[int]()
	for i := range 40 {
		tree.Insert(rect.Rect{X: i, W: 1, H: 1}, i)
	}
	c := tree.Copy()
	before := told(tree.All())
	for i := range 30 {
		c.Delete(rect.Rect{X: i, W: 1, H: 1}, i)
		c.Insert(rect.Rect{X: i, Y: 9, W: 2, H: 2}, i)
	}
	if !slices.Equal(told(tree.All()), before) || !tree.Check() || !c.Check() || c.Len() != 40 {
		t.Error("a copy shares with the first one")
	}
	all := tree.All()
	tree.Delete(rect.Rect{W: 1, H: 1}, 0)
	if len(told(all)) != 39 {
		t.Error("it is told as it was when it was asked for")
	}
}

func TestThingsWithoutEqual(t *testing.T) { // P1: no panic, whatever the things are
	tree := New[any]()
	r := rect.Rect{W: 1, H: 1}
	if tree.Insert(r, []int{1}) != api.OK || tree.Insert(r, []int{1}) != api.OK || tree.Delete(r, []int{1}) != api.ErrNone || tree.Insert(r, 1) != api.OK || tree.Delete(r, 1) != api.OK || tree.Len() != 2 {
		t.Error("things that can't be held against each other")
	}
}
