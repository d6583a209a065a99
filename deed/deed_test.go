package deed

import (
	"math"
	"slices"
	"testing"

	"deedhold/api"
)

func is(t *testing.T, what string, e, want api.Errno) {
	t.Helper()
	if e != want {
		t.Errorf("%s: %d, want %d", what, e, want)
	}
}

func check(t *testing.T, d *Deeds, m []Deed, next int) {
	t.Helper()
	if got := slices.Collect(d.All()); !slices.Equal(got, m) || d.Len() != len(m) || d.Next() != next {
		t.Fatalf("All %v, Len %d, Next %d; want %v, %d", got, d.Len(), d.Next(), m, next)
	}
	held := map[int][]int{}
	for _, x := range m {
		held[x.Holder] = append(held[x.Holder], x.ID)
		got, e := d.Get(x.ID)
		of, ok := d.Of(x.Plot)
		if got != x || of != x || e != api.OK || !ok {
			t.Fatalf("Get %v, Of %v; want %v", got, of, x)
		}
	}
	for p := -1; p < 12; p++ {
		if !slices.Equal(d.Held(p), held[p]) {
			t.Fatalf("Held(%d): %v, want %v", p, d.Held(p), held[p])
		}
		want := api.OK
		if p < 1 {
			want = api.ErrForm
		} else if len(held[p]) >= 3 {
			want = api.ErrLimit
		}
		is(t, "May", d.May(p), want)
	}
	r, ok := Restore(m, next)
	if !ok || !slices.Equal(slices.Collect(r.All()), m) || r.Next() != next {
		t.Fatal("Restore")
	}
}

func TestModel(t *testing.T) { // P20.1, P20.2, P20.3
	d, m, nextID, seed := New(), []Deed{}, 1, uint32(3)
	next := func(n int) int {
		seed = seed*1664525 + 1013904223
		return int(seed>>8) % n
	}
	check(t, d, m, 1)
	for range 2000 {
		id, plot, who := next(nextID+2)-1, next(22)-1, next(12)-1
		if len(m) > 0 && next(3) > 0 {
			id = m[next(len(m))].ID
		}
		i := slices.IndexFunc(m, func(x Deed) bool { return x.ID == id })
		of := slices.IndexFunc(m, func(x Deed) bool { return x.Plot == plot })
		holds := 0
		for _, x := range m {
			if x.Holder == who {
				holds++
			}
		}
		switch next(3) {
		case 0:
			got, e := d.Issue(plot, who)
			switch {
			case plot < 1 || who < 1:
				is(t, "Issue", e, api.ErrForm)
			case of >= 0:
				is(t, "Issue", e, api.ErrTwice)
			case holds >= 3:
				is(t, "Issue", e, api.ErrLimit)
			default:
				is(t, "Issue", e, api.OK)
				m = append(m, Deed{nextID, plot, who})
				nextID++
			}
			if e != api.OK && got != 0 || e == api.OK && got != nextID-1 {
				t.Fatalf("Issue: %d", got)
			}
		case 1:
			e := d.Move(id, who)
			switch {
			case i < 0:
				is(t, "Move", e, api.ErrNone)
			case who < 1:
				is(t, "Move", e, api.ErrForm)
			case m[i].Holder == who:
				is(t, "Move", e, api.OK)
			case holds >= 3:
				is(t, "Move", e, api.ErrLimit)
			default:
				is(t, "Move", e, api.OK)
				m[i].Holder = who
			}
		default:
			e := d.Void(id)
			if i < 0 {
				is(t, "Void", e, api.ErrNone)
			} else {
				is(t, "Void", e, api.OK)
				m = slices.Delete(m, i, i+1)
			}
		}
		check(t, d, m, nextID)
	}
}

func TestExample(t *testing.T) { // P20.1
	d := New()
	a, _ := d.Issue(7, 1)
	_, e := d.Issue(7, 2)
	d.Void(1)
	b, _ := d.Issue(7, 2)
	if a != 1 || e != api.ErrTwice || b != 2 {
		t.Errorf("%d %d %d", a, e, b)
	}
	for _, id := range []int{0, -1, 3, math.MinInt, math.MaxInt} {
		x, e := d.Get(id)
		y, ok := d.Of(id)
		if x != (Deed{}) || y != (Deed{}) || ok {
			t.Errorf("of %d", id)
		}
		is(t, "Get", e, api.ErrNone)
		is(t, "Move", d.Move(id, 0), api.ErrNone)
		is(t, "Void", d.Void(id), api.ErrNone)
	}
	is(t, "Move", d.Move(2, 0), api.ErrForm)
	n := 0
	for range d.All() {
		n++
		break
	}
	if n != 1 {
		t.Error("All, as far as it is asked")
	}
}

func TestFullHolderMovesToItself(t *testing.T) { // P20.1
	d := New()
	for plot := range 3 {
		d.Issue(plot+1, 5)
	}
	is(t, "Move", d.Move(1, 5), api.OK)
	_, e := d.Issue(1, 5)
	is(t, "Issue", e, api.ErrTwice)
	_, e = d.Issue(9, 5)
	is(t, "Issue", e, api.ErrLimit)
}

func TestRestore(t *testing.T) { // P20.3
	for name, c := range map[string]struct {
		l    []Deed
		next int
		want bool
	}{
		"nothing": {nil, 1, true}, "next 0": {nil, 0, false}, "next below 0": {nil, math.MinInt, false}, "the last next": {nil, 1 << 40, true}, "next too great": {nil, 1<<40 + 1, false},
		"some": {[]Deed{{2, 9, 1}, {5, 3, 1}}, 6, true}, "next not above": {[]Deed{{2, 9, 1}, {5, 3, 1}}, 5, false}, "falling": {[]Deed{{5, 9, 1}, {2, 3, 1}}, 9, false},
		"one number twice": {[]Deed{{5, 9, 1}, {5, 3, 1}}, 9, false}, "a number 0": {[]Deed{{0, 9, 1}}, 9, false}, "a plot 0": {[]Deed{{1, 0, 1}}, 9, false}, "a holder 0": {[]Deed{{1, 9, 0}}, 9, false},
		"one plot twice": {[]Deed{{1, 9, 1}, {2, 9, 2}}, 9, false}, "three of one": {[]Deed{{1, 1, 1}, {2, 2, 1}, {3, 3, 1}}, 9, true}, "four of one": {[]Deed{{1, 1, 1}, {2, 2, 1}, {3, 3, 1}, {4, 4, 1}}, 9, false},
		"the last number": {[]Deed{{1<<40 - 1, math.MaxInt, math.MaxInt}}, 1 << 40, true},
	} {
		d, ok := Restore(c.l, c.next)
		if ok != c.want || (d != nil) != ok || ok && (!slices.Equal(slices.Collect(d.All()), c.l) || d.Next() != c.next) {
			t.Errorf("%s: %t", name, ok)
		}
	}
}

func TestCopyAndMemory(t *testing.T) { // P20.3
	l := []Deed{{1, 1, 1}, {2, 2, 1}}
	d, _ := Restore(l, 3)
	l[0] = Deed{}
	c := d.Copy()
	c.Issue(3, 1)
	c.Void(1)
	c.Move(2, 9)
	clear(d.Held(1))
	check(t, d, []Deed{{1, 1, 1}, {2, 2, 1}}, 3)
	check(t, c, []Deed{{2, 2, 9}, {3, 3, 1}}, 4)
}
