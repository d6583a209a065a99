package table

import (
	"maps"
	"math"
	"slices"
	"strings"
	"testing"

	"deedhold/api"
	"deedhold/btree"
	"deedhold/disk"
	"deedhold/heap"
	"deedhold/pager"
)

// texts makes bytes of texts: an x, and the text.
type texts struct{}

func (texts) Bytes(v string) []byte {
	if v == "none" {
		return nil
	}
	return []byte("x" + v)
}

func (texts) Parse(b []byte) (string, bool) {
	if b[0] != 'x' {
		return "told beside a false", false
	}
	return string(b[1:]), true
}

func newPager(t *testing.T, sectors int) (*disk.Disk, *pager.Pager) {
	t.Helper()
	d := disk.New(sectors, 64)
	p, e := pager.Open(d)
	if e != api.OK || p.Begin() != api.OK {
		t.Fatalf("pager: %d", e)
	}
	return d, p
}

func newTable(t *testing.T, sectors int) (*disk.Disk, *pager.Pager, *Table[string]) {
	t.Helper()
	d, p := newPager(t, sectors)
	x, e := New(p, texts{})
	if e != api.OK {
		t.Fatalf("New: %d", e)
	}
	return d, p, x
}

func check(t *testing.T, x *Table[string], m map[int]string, next int) {
	t.Helper()
	if !x.Check() || x.Next() != next || x.Len() != len(m) {
		t.Fatalf("Check %t, Next %d, Len %d; want %d, %d", x.Check(), x.Next(), x.Len(), next, len(m))
	}
	for _, from := range []int{math.MinInt, 0, 1, 7, math.MaxInt} {
		var got, want []int
		for id, v := range x.Each(from) {
			if got = append(got, id); v != m[id] {
				t.Fatalf("Each: %d has %q", id, v)
			}
		}
		for _, id := range slices.Sorted(maps.Keys(m)) {
			if id >= from {
				want = append(want, id)
			}
		}
		if !slices.Equal(got, want) {
			t.Fatalf("Each(%d): %v, want %v", from, got, want)
		}
	}
}

func TestModel(t *testing.T) { // P13.1, P13.2, P13.3
	_, p, x := newTable(t, 2000)
	m, next, seed := map[int]string{}, 1, uint32(9)
	for i := range 1500 {
		seed = seed*1664525 + 1013904223
		id := int(seed>>8%50) - 2
		v := strings.Repeat(string(rune('a'+i%26)), int(seed>>16)%60)
		if seed>>28 == 3 {
			v = strings.Repeat("long", int(seed>>16)%60)
		}
		var e, want api.Errno
		switch seed >> 24 % 6 {
		case 0:
			var got int
			if got, e = x.Add(v); got != next {
				t.Fatalf("Add: %d, want %d", got, next)
			}
			m[next] = v
			next++
		case 1, 2:
			if e = x.Put(id, v); id < 1 {
				want = api.ErrForm
			} else {
				m[id] = v
				next = max(next, id+1)
			}
		case 3, 4, 5:
			e = x.Del(id)
			if _, ok := m[id]; !ok {
				want = api.ErrNone
			}
			delete(m, id)
		}
		if e != want {
			t.Fatalf("%d: %d, want %d", id, e, want)
		}
		v, e = x.Get(id)
		if w, ok := m[id]; v != w || !ok && e != api.ErrNone || ok && e != api.OK {
			t.Fatalf("Get(%d): %q, %d", id, v, e)
		}
		if i%15 == 0 {
			check(t, x, m, next)
			o, e := Open(p, x.Root(), texts{})
			if e != api.OK {
				t.Fatalf("Open: %d", e)
			}
			check(t, o, m, next)
		}
	}
}

func TestExample(t *testing.T) { // P13.1, P13.2
	_, _, x := newTable(t, 50)
	check(t, x, nil, 1)
	a, _ := x.Add("x")
	b, _ := x.Add("y")
	x.Del(a)
	c, e := x.Add("z")
	if a != 1 || b != 2 || c != 3 || e != api.OK {
		t.Errorf("%d %d %d", a, b, c)
	}
	n := 0
	for range x.Each(1) {
		n++
		break
	}
	if n != 1 {
		t.Error("Each, as far as it is asked")
	}
}

func TestRefused(t *testing.T) { // P13.2
	d, p, x := newTable(t, 50)
	x.Add("a")
	long := strings.Repeat("b", 1<<14)
	for _, v := range []string{"none", long} {
		id, e := x.Add(v)
		if id != 0 || e != api.ErrRange || x.Put(1, v) != api.ErrRange || x.Put(0, v) != api.ErrForm {
			t.Errorf("a value of no bytes, or too many: %d", e)
		}
	}
	for _, id := range []int{0, -1, 1<<40 + 1, math.MinInt, math.MaxInt} {
		if x.Put(id, "a") != api.ErrForm || x.Del(id) != api.ErrNone {
			t.Errorf("the id %d", id)
		}
		if v, e := x.Get(id); v != "" || e != api.ErrNone {
			t.Errorf("the id %d", id)
		}
	}
	check(t, x, map[int]string{1: "a"}, 2)
	if x.Put(1<<40, "last") != api.OK || x.Next() != 1<<40+1 {
		t.Error("the last id")
	}
	if id, e := x.Add("b"); id != 0 || e != api.ErrMany {
		t.Errorf("Add: %d", e)
	}
	if _, e := x.Add("none"); e != api.ErrRange {
		t.Errorf("Add: %d", e)
	}
	p.Commit()
	o, e := Open(p, x.Root(), texts{})
	if e != api.OK {
		t.Fatal(e)
	}
	check(t, o, map[int]string{1: "a", 1 << 40: "last"}, 1<<40+1)
	if _, e := New(p, texts{}); e != api.ErrState {
		t.Errorf("New: %d", e)
	}
	if id, e := New(p, texts{}); id != nil || e != api.ErrState {
		t.Errorf("New: %d", e)
	}
	if o.Put(1, "z") != api.ErrState || o.Put(3, "z") != api.ErrState || o.Del(1) != api.ErrState || o.Put(1, "none") != api.ErrRange || o.Del(2) != api.ErrNone {
		t.Error("without a change")
	}
	p.Begin()
	d.Arm(0)
	if o.Put(1, "z") != api.ErrDown {
		t.Error("Put")
	}
	_, e = Open(p, x.Root(), texts{})
	_, f := New(p, texts{})
	_, g := x.Get(1)
	if e != api.ErrDown || f != api.ErrDown || g != api.ErrDown || x.Check() {
		t.Errorf("down: %d %d %d", e, f, g)
	}
}

func TestLastIDs(t *testing.T) { // P13.2
	_, p, x := newTable(t, 600)
	if e := x.Put(1<<40-1, "a"); e != api.OK || x.Next() != 1<<40 {
		t.Fatalf("Put: %d", e)
	}
	if id, e := x.Add(strings.Repeat("b", 1<<14-1)); id != 1<<40 || e != api.OK {
		t.Errorf("Add of the longest value: %d, %d", id, e)
	}
	if id, e := x.Add("c"); id != 0 || e != api.ErrMany {
		t.Errorf("Add: %d, %d", id, e)
	}
	if id, e := x.Add(strings.Repeat("b", 1<<14)); id != 0 || e != api.ErrRange {
		t.Errorf("Add: %d, %d", id, e)
	}
	p.Commit()
	if id, e := x.Add("c"); id != 0 || e != api.ErrMany {
		t.Errorf("Add: %d, %d", id, e)
	}
	if o, e := Open(p, x.Root(), texts{}); e != api.OK || !o.Check() || o.Len() != 2 {
		t.Errorf("Open: %d", e)
	}
}

func TestFull(t *testing.T) { // P13.2
	_, p, x := newTable(t, 12)
	x.Add("a")
	p.Commit()
	c := x.Copy()
	p.Begin()
	e := api.OK
	for e == api.OK {
		_, e = x.Add("abcdefghijklmnopqrstuvwxyz")
	}
	if e != api.ErrFull {
		t.Errorf("Add: %d", e)
	}
	p.Abort()
	check(t, c, map[int]string{1: "a"}, 2)
}

func TestNoTable(t *testing.T) { // P13.1
	_, p := newPager(t, 100)
	for _, root := range []int{-1, 0, 98, math.MaxInt} {
		if x, e := Open(p, root, texts{}); x != nil || e != api.ErrBad {
			t.Errorf("a page that is not used: %d", e)
		}
	}
	for name, c := range map[string]struct {
		set  func(tree *btree.Tree, place int)
		want api.Errno
	}{
		"right":                   {func(tree *btree.Tree, place int) { tree.Put(2, place) }, api.OK},
		"no next id":              {func(tree *btree.Tree, place int) { tree.Del(0) }, api.ErrBad},
		"a next id below 1":       {func(tree *btree.Tree, place int) { tree.Put(0, 0) }, api.ErrBad},
		"a next id too great":     {func(tree *btree.Tree, place int) { tree.Put(0, 1<<40+2) }, api.ErrBad},
		"an id that is the next":  {func(tree *btree.Tree, place int) { tree.Put(3, place) }, api.ErrBad},
		"an id below 0":           {func(tree *btree.Tree, place int) { tree.Put(-1, place) }, api.ErrBad},
		"a place of nothing":      {func(tree *btree.Tree, place int) { tree.Put(1, place+1) }, api.ErrBad},
		"a place of no page":      {func(tree *btree.Tree, place int) { tree.Put(1, 90*64) }, api.ErrBad},
		"a place far off":         {func(tree *btree.Tree, place int) { tree.Put(1, math.MinInt) }, api.ErrBad},
		"two values at one place": {func(tree *btree.Tree, place int) { tree.Put(1, place); tree.Put(2, place) }, api.ErrBad},
	} {
		tree, _ := btree.New(p)
		h := heap.New(p)
		place, _ := h.Put([]byte("xabc"))
		tree.Put(0, 3)
		c.set(tree, place)
		x, e := Open(p, tree.Root(), texts{})
		if e != c.want || (x == nil) != (e != api.OK) {
			t.Errorf("%s: %d", name, e)
		}
	}
	tree, _ := btree.New(p)
	h := heap.New(p)
	place, _ := h.Put([]byte("yabc"))
	tree.Put(0, 3)
	tree.Put(1, place)
	if x, e := Open(p, tree.Root(), texts{}); x != nil || e != api.ErrBad {
		t.Errorf("no value's bytes: %d", e)
	}
	if x, e := Open(p, place/64, texts{}); x != nil || e != api.ErrBad {
		t.Errorf("no B-tree: %d", e)
	}
}

func TestCheckSeesChanges(t *testing.T) { // P13.1, P13.3
	_, p, x := newTable(t, 100)
	x.Add("a")
	x.Add("b")
	x.Add("c")
	tree := btree.At(p, x.Root())
	place, _ := tree.Get(2)
	h, _ := heap.Open(p, slices.Values([]int{place}))
	h.Set(place, []byte("yb"))
	if x.Check() {
		t.Error("Check of a value that cannot be told")
	}
	if v, e := x.Get(2); v != "" || e != api.ErrBad {
		t.Errorf("Get: %q, %d", v, e)
	}
	n := 0
	for range x.Each(1) {
		n++
	}
	if n != 1 {
		t.Errorf("Each tells %d", n)
	}
	tree.Put(0, 9)
	if x.Check() {
		t.Error("Check of another next id")
	}
}

func TestCopy(t *testing.T) { // P13.1
	_, p, x := newTable(t, 100)
	x.Add("a")
	p.Commit()
	c := x.Copy()
	p.Begin()
	for range 20 {
		x.Add("some text that is not so short")
	}
	if c.Next() != 2 || x.Next() != 22 || c.Root() != x.Root() {
		t.Error("a copy is the same object")
	}
	p.Abort()
	check(t, c, map[int]string{1: "a"}, 2)
	p.Begin()
	if id, e := c.Add("b"); id != 2 || e != api.OK {
		t.Errorf("Add: %d, %d", id, e)
	}
	check(t, c, map[int]string{1: "a", 2: "b"}, 3)
}

func TestNoCoder(t *testing.T) {
	_, p := newPager(t, 100)
	x, e := New[string](p, nil)
	if e != api.OK {
		t.Fatal(e)
	}
	if _, e := x.Add("a"); e != api.ErrRange || x.Put(1, "a") != api.ErrRange {
		t.Errorf("Add: %d", e)
	}
	if _, e := Open[string](p, x.Root(), nil); e != api.OK {
		t.Errorf("Open: %d", e)
	}
}
