package btree

import (
	"maps"
	"math"
	"slices"
	"testing"

	"deedhold/api"
	"deedhold/disk"
	"deedhold/pager"
)

func newPager(t *testing.T, sectors, size int) *pager.Pager {
	t.Helper()
	p, e := pager.Open(disk.New(sectors, size))
	if e != api.OK || p.Begin() != api.OK {
		t.Fatalf("pager: %d", e)
	}
	return p
}

func newTree(t *testing.T, size int) (*pager.Pager, *Tree) {
	t.Helper()
	p := newPager(t, 4096, size)
	tree, e := New(p)
	if e != api.OK {
		t.Fatalf("New: %d", e)
	}
	return p, tree
}

// check holds a tree against what it must have.
func check(t *testing.T, p *pager.Pager, tree *Tree, m map[int]int) {
	t.Helper()
	keys := slices.Sorted(maps.Keys(m))
	if !tree.Check() || tree.Len() != len(m) {
		t.Fatalf("Check %t, Len %d; want %d", tree.Check(), tree.Len(), len(m))
	}
	got := []int{}
	for k, v := range tree.Each(math.MinInt) {
		if got = append(got, k); v != m[k] {
			t.Fatalf("Each: %d has %d", k, v)
		}
	}
	if !slices.Equal(got, keys) {
		t.Fatalf("Each: %v, want %v", got, keys)
	}
	pages := tree.Pages()
	if used := slices.Collect(p.All()); !slices.Equal(pages, used) || len(pages) > len(m)+1 {
		t.Fatalf("Pages %v, used %v, of %d keys", pages, used, len(m))
	}
	k, v, e := tree.Least()
	l, w, f := tree.Greatest()
	if len(keys) == 0 {
		if e != api.ErrNone || f != api.ErrNone || k != 0 || v != 0 || l != 0 || w != 0 {
			t.Fatal("Least or Greatest of nothing")
		}
	} else if k != keys[0] || v != m[k] || l != keys[len(keys)-1] || w != m[l] || e != api.OK || f != api.OK {
		t.Fatal("Least or Greatest")
	}
}

func TestModel(t *testing.T) { // P10.1 to P10.4
	for _, size := range []int{64, 76, 77, 94, 112, 130, 256, 512} {
		p, tree := newTree(t, size)
		root := tree.Root()
		m := map[int]int{}
		seed := uint32(size)
		for i := range 4000 {
			seed = seed*1664525 + 1013904223
			k := int(seed>>8%300) - 150
			grow := i/500%2 == 0
			var e, want api.Errno
			_, ok := m[k]
			if r := seed >> 28; grow && r < 11 || !grow && r < 5 {
				e = tree.Put(k, i)
				m[k] = i
			} else {
				if e = tree.Del(k); !ok {
					want = api.ErrNone
				}
				delete(m, k)
			}
			if e != want {
				t.Fatalf("%d: %d, want %d", k, e, want)
			}
			v, e := tree.Get(k)
			if w, ok := m[k]; v != w || ok != (e == api.OK) || !ok && e != api.ErrNone {
				t.Fatalf("Get(%d): %d, %d", k, v, e)
			}
			if i%7 == 0 {
				check(t, p, tree, m)
			}
		}
		if tree.Root() != root {
			t.Error("the root has moved")
		}
		check(t, p, At(p, root), m)
		for _, k := range slices.Sorted(maps.Keys(m)) {
			tree.Del(k)
			delete(m, k)
			check(t, p, tree, m)
		}
	}
}

func TestOrders(t *testing.T) { // P10.2, P10.3
	for name, key := range map[string]func(i int) int{"rising": func(i int) int { return i }, "falling": func(i int) int { return 101 - i }, "any": func(i int) int { return i*37%101 + 0 }} {
		p, tree := newTree(t, 64)
		m := map[int]int{}
		for i := 1; i <= 100; i++ {
			tree.Put(key(i), -i)
			m[key(i)] = -i
		}
		check(t, p, tree, m)
		for from := -1; from <= 102; from++ {
			want := max(from, 1)
			for k := range tree.Each(from) {
				if k != want {
					t.Fatalf("%s: Each(%d): %d, want %d", name, from, k, want)
				}
				want++
			}
			if want != max(101, from) {
				t.Fatalf("%s: Each(%d) ends ahead of %d", name, from, want)
			}
		}
		n := 0
		for range tree.Each(40) {
			if n++; n == 7 {
				break
			}
		}
		if n != 7 {
			t.Error("Each, as far as it is asked")
		}
	}
}

func TestManyPages(t *testing.T) { // P10.2, P10.4: numbers of pages that need both bytes
	p, tree := newTree(t, 64)
	m := map[int]int{}
	for i := range 900 {
		k := i * 7919 % 1009
		if e := tree.Put(k, i); e != api.OK {
			t.Fatal(e)
		}
		m[k] = i
	}
	if l := tree.Pages(); l[len(l)-1] < 300 {
		t.Fatalf("only %d pages", len(l))
	}
	check(t, p, tree, m)
	for k := range 1009 {
		v, e := tree.Get(k)
		if w, ok := m[k]; v != w || ok != (e == api.OK) {
			t.Fatalf("Get(%d): %d, %d", k, v, e)
		}
	}
}

func TestDeep(t *testing.T) { // P10.1: a node that lies deeper than 40
	for _, deep := range []int{30, 60} {
		p := newPager(t, 256, 64)
		for range 2*deep + 1 {
			p.Alloc()
		}
		tree := At(p, 0)
		for i := range deep { // the page i leads to a leaf, and to the page below it
			tree.write(&node{page: i, keys: []int{10 * i}, values: []int{i}, kids: []int{deep + 1 + i, i + 1}})
			tree.write(&node{page: deep + 1 + i, keys: []int{10*i - 5}, values: []int{0}})
		}
		tree.write(&node{page: deep, keys: []int{10 * deep}, values: []int{deep}})
		want := api.OK
		if deep > 40 {
			want = api.ErrBad
		}
		if _, e := tree.Get(10 * deep); e != want {
			t.Errorf("Get in %d nodes: %d", deep, e)
		}
		if _, _, e := tree.Greatest(); e != want {
			t.Errorf("Greatest in %d nodes: %d", deep, e)
		}
		if e := tree.Put(10*deep+1, 0); e != want {
			t.Errorf("Put in %d nodes: %d", deep, e)
		}
		if tree.Check() {
			t.Error("leaves at many depths")
		}
		if n := tree.Len(); deep < 40 && n != 2*deep+2 || deep > 40 && n > 2*41 {
			t.Errorf("Len in %d nodes: %d", deep, n)
		}
	}
}

func TestNothingBeyondTheLastKey(t *testing.T) { // P10.3: no keys lie above the greatest number, or below the least
	for _, c := range []struct{ key, left, right int }{{math.MaxInt, 3, 5}, {math.MinInt, 3, 5}, {math.MaxInt, 3, math.MinInt}} {
		p := newPager(t, 64, 64)
		for range 3 {
			p.Alloc()
		}
		tree := At(p, 0)
		tree.write(&node{page: 0, keys: []int{c.key}, values: []int{0}, kids: []int{1, 2}})
		tree.write(&node{page: 1, keys: []int{c.left}, values: []int{0}})
		tree.write(&node{page: 2, keys: []int{c.right}, values: []int{0}})
		if tree.Check() {
			t.Errorf("%v: Check", c)
		}
	}
}

func TestFarKeys(t *testing.T) { // P10.2
	p, tree := newTree(t, 64)
	m := map[int]int{}
	for i := range 20 {
		for _, k := range []int{math.MinInt + i, math.MaxInt - i, i, -i} {
			if e := tree.Put(k, ^k); e != api.OK {
				t.Fatal(e)
			}
			m[k] = ^k
		}
	}
	check(t, p, tree, m)
	for k := range tree.Each(math.MaxInt) {
		if k != math.MaxInt {
			t.Error(k)
		}
	}
	for _, k := range slices.Sorted(maps.Keys(m)) {
		if v, e := tree.Get(k); v != ^k || e != api.OK || tree.Del(k) != api.OK {
			t.Fatalf("%d: %d, %d", k, v, e)
		}
		delete(m, k)
	}
	check(t, p, tree, m)
}

func TestBytes(t *testing.T) { // the page's bytes, as the document has them
	p, tree := newTree(t, 64)
	tree.Put(-2, 258)
	tree.Put(5, -1)
	want := make([]byte, 64)
	copy(want, "\x01\x02\xfe\xff\xff\xff\xff\xff\xff\xff\x05\x00\x00\x00\x00\x00\x00\x00\x02\x01\x00\x00\x00\x00\x00\x00\xff\xff\xff\xff\xff\xff\xff\xff")
	if b, _ := p.Read(tree.Root()); !slices.Equal(b, want) {
		t.Errorf("%x", b)
	}
	tree.Put(7, 0)
	tree.Put(9, 0)
	b, _ := p.Read(tree.Root())
	if b[0] != 2 || b[1] != 1 || int(b[18])|int(b[20]) == 0 || !slices.Equal(b[22:], make([]byte, 42)) {
		t.Errorf("%x", b)
	}
}

func TestDrop(t *testing.T) { // P10.3
	p, tree := newTree(t, 64)
	for i := range 50 {
		tree.Put(i, i)
	}
	if e := tree.Drop(); e != api.OK || p.Used() != 0 {
		t.Errorf("Drop: %d, %d pages are used", e, p.Used())
	}
	if e := tree.Drop(); e != api.ErrNone || tree.Check() || len(tree.Pages()) != 0 || tree.Len() != 0 {
		t.Errorf("Drop again: %d", e)
	}
}

// asked: the errors of all calls on a tree that isn't one.
func asked(tree *Tree) []api.Errno {
	_, e := tree.Get(3)
	_, _, f := tree.Least()
	_, _, g := tree.Greatest()
	return []api.Errno{e, f, g, tree.Put(3, 3), tree.Del(3), tree.Drop()}
}

func TestNoTree(t *testing.T) { // P10.1
	p := newPager(t, 64, 64)
	for _, root := range []int{-1, 0, 61, 62, math.MinInt, math.MaxInt} {
		tree := At(p, root)
		if tree.Root() != root || tree.Check() || tree.Len() != 0 || len(tree.Pages()) != 0 {
			t.Errorf("a root %d", root)
		}
		for i, e := range asked(tree) {
			if e != api.ErrNone {
				t.Errorf("a root %d, call %d: %d", root, i, e)
			}
		}
	}
	root, _ := p.Alloc()
	kid, _ := p.Alloc()
	page := func(s string, end byte) []byte {
		b := make([]byte, 64)
		copy(b, s)
		b[63] = end
		return b
	}
	key := func(k byte) string { return string([]byte{k, 0, 0, 0, 0, 0, 0, 0}) }
	for name, b := range map[string][]byte{
		"noughts":              page("", 0),
		"another kind":         page("\x03\x00", 0),
		"too many keys":        page("\x01\x04", 0),
		"no nought at the end": page("\x01\x00", 1),
		"a root of no keys":    page("\x02\x00\x01", 0),
		"keys that fall":       page("\x01\x02"+key(4)+key(2), 0),
		"keys that are one":    page("\x01\x02"+key(2)+key(2), 0),
		"its own child":        page("\x02\x01"+key(7)+key(0)+"\x00\x00\x00\x00", 0),
	} {
		p.Write(root, b)
		tree := At(p, root)
		for i, e := range asked(tree) {
			if e != api.ErrBad {
				t.Errorf("%s, call %d: %d", name, i, e)
			}
		}
		if tree.Check() || tree.Len() != 0 {
			t.Errorf("%s: Check, or Len %d", name, tree.Len())
		}
	}
	p.Write(root, page("\x02\x01"+key(7)+key(0)+"\x01\x00\x02\x00", 0))
	p.Write(kid, page("\x01\x01"+key(3)+key(0), 0))
	tree := At(p, root)
	if _, e := tree.Get(3); e != api.OK || tree.Check() || tree.Len() != 2 || tree.Put(9, 9) != api.ErrNone || tree.Drop() != api.ErrNone {
		t.Error("a child whose page is not used")
	}
	p.Write(kid, page("\x01\x01"+key(8)+key(0), 0))
	if tree.Check() {
		t.Error("keys that lie elsewhere")
	}
}

func TestManyWays(t *testing.T) { // P10.1: each call ends
	p := newPager(t, 128, 64)
	for i := range 60 { // each node twice the child of the one above it
		b := make([]byte, 64)
		b[0], b[1], b[18], b[20] = 2, 1, byte(i+1), byte(i+1)
		if i >= 40 {
			b[0], b[1], b[18], b[20] = 1, 0, 0, 0
		}
		p.Alloc()
		p.Write(i, b)
	}
	tree := At(p, 0)
	if tree.Check() || tree.Len() != 0 || len(tree.Pages()) > 60 || tree.Drop() != api.ErrBad {
		t.Error("what is no tree")
	}
}

func TestShape(t *testing.T) { // P10.3: too few keys, or leaves at two depths
	p := newPager(t, 64, 112) // at most 6 keys, at least 2
	for range 5 {
		p.Alloc()
	}
	put := func(page int, kids []int, keys ...int) {
		tree := At(p, page)
		if e := tree.write(&node{page: page, keys: keys, values: keys, kids: kids}); e != api.OK {
			t.Fatal(e)
		}
	}
	put(0, []int{1, 2}, 10)
	put(1, nil, 1, 2)
	put(2, nil, 20, 30)
	tree := At(p, 0)
	if !tree.Check() {
		t.Error("a tree")
	}
	put(2, nil, 20)
	if tree.Check() {
		t.Error("a leaf with too few keys")
	}
	put(2, []int{3, 4, 4}, 20, 30)
	put(3, nil, 12, 13)
	put(4, nil, 40, 50)
	if tree.Check() || !slices.Equal(tree.Pages(), []int{0, 1, 2, 3}) {
		t.Error("leaves at two depths")
	}
}

func TestPagersErrors(t *testing.T) { // P10.1, P10.2
	d := disk.New(12, 64)
	p, _ := pager.Open(d)
	if tree, e := New(p); e != api.ErrState || tree != nil {
		t.Errorf("New: %d", e)
	}
	p.Begin()
	tree, _ := New(p)
	tree.Put(1, 1)
	p.Commit()
	if tree.Put(1, 1) != api.ErrState || tree.Put(2, 1) != api.ErrState || tree.Del(1) != api.ErrState || tree.Del(2) != api.ErrNone || tree.Drop() != api.ErrState {
		t.Error("without a change")
	}
	if v, e := tree.Get(1); v != 1 || e != api.OK || !tree.Check() {
		t.Error("the tree is another one")
	}
	p.Begin()
	e := api.OK
	for i := 2; e == api.OK; i++ {
		e = tree.Put(i, i)
	}
	if e != api.ErrFull || p.Abort() != api.OK || tree.Len() != 1 {
		t.Errorf("a full disk: %d", e)
	}
	p.Begin()
	d.Arm(0)
	if e := tree.Put(2, 2); e != api.ErrDown {
		t.Errorf("Put: %d", e)
	}
	if _, e := tree.Get(2); e != api.ErrDown || tree.Check() {
		t.Errorf("Get: %d", e)
	}
	full := disk.New(8, 64)
	p, _ = pager.Open(full)
	p.Begin()
	for range 6 {
		p.Alloc()
	}
	if tree, e := New(p); e != api.ErrFull || tree != nil {
		t.Errorf("New: %d", e)
	}
}
