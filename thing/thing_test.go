package thing

import (
	"math"
	"slices"
	"testing"

	"deedhold/api"
)

func is(t *testing.T, what string, e, want api.Errno) {
	t.Helper()
	if e != want {
		t.Errorf("%s: %d, want %d", what, e, want)
	}
}

func having(m []Thing, is func(Thing) bool) []Thing {
	return slices.DeleteFunc(slices.Clone(m), func(x Thing) bool { return !is(x) })
}

func check(t *testing.T, x *Things, m []Thing, next int) {
	t.Helper()
	if got := slices.Collect(x.All()); !slices.Equal(got, m) || x.Len() != len(m) || x.Next() != next {
		t.Fatalf("All %v, Len %d, Next %d; want %v, %d", got, x.Len(), x.Next(), m, next)
	}
	for k := range 6 {
		for h := -1; h < 4; h++ {
			for s := -1; s < 6; s++ {
				p := Place{k, h, s}
				var want []int
				for _, y := range m {
					if y.Place == p {
						want = append(want, y.ID)
					}
				}
				if !slices.Equal(x.In(p), want) {
					t.Fatalf("In(%v): %v, want %v", p, x.In(p), want)
				}
			}
		}
	}
	for h := -1; h < 5; h++ {
		of := having(m, func(y Thing) bool { return y.Place.Kind > 1 && y.Place.House == h })
		owned := having(m, func(y Thing) bool { return y.Owner == h })
		if !slices.Equal(slices.Collect(x.Of(h)), of) || !slices.Equal(slices.Collect(x.Owned(h)), owned) {
			t.Fatalf("Of or Owned, %d", h)
		}
	}
	for _, y := range m {
		if got, e := x.Get(y.ID); got != y || e != api.OK {
			t.Fatalf("Get(%d): %v", y.ID, got)
		}
	}
	if r, ok := Restore(m, next); !ok || !slices.Equal(slices.Collect(r.All()), m) || r.Next() != next {
		t.Fatal("Restore")
	}
}

func TestPlace(t *testing.T) { // P21.1
	for k := -1; k < 7; k++ {
		for h := -1; h < 3; h++ {
			for s := -1; s < 7; s++ {
				want := h >= 1 && (k == 2 && s >= 1 && s <= 4 || (k == 1 || k == 3 || k == 4) && s == 0)
				if (Place{k, h, s}).Right() != want {
					t.Errorf("%v: %t", Place{k, h, s}, !want)
				}
			}
		}
	}
	if !(Place{1, math.MaxInt, 0}).Right() || (Place{math.MaxInt, 1, 0}).Right() || (Place{2, 1, math.MinInt}).Right() {
		t.Error("far off")
	}
}

func TestModel(t *testing.T) { // P21.1, P21.2, P21.3
	x, m, nextID, seed := New(), []Thing{}, 1, uint32(2)
	next := func(n int) int {
		seed = seed*1664525 + 1013904223
		return int(seed>>8) % n
	}
	names := []string{"sword", "a", "", "Sword", "x-1"}
	check(t, x, m, 1)
	for range 1500 {
		id, who, name := next(nextID+2)-1, next(5)-1, names[next(5)]
		if len(m) > 0 && next(4) > 0 {
			id = m[next(len(m))].ID
		}
		p := Place{next(6), next(4), 0}
		if next(2) == 0 {
			p.Slot = next(6)
		}
		i := slices.IndexFunc(m, func(y Thing) bool { return y.ID == id })
		switch next(6) {
		case 0, 1:
			got, e := x.Make(name, who)
			switch {
			case name == "" || name == "Sword":
				is(t, "Make", e, api.ErrName)
			case who < 1:
				is(t, "Make", e, api.ErrForm)
			default:
				is(t, "Make", e, api.OK)
				m = append(m, Thing{nextID, name, who, Place{1, who, 0}})
				nextID++
			}
			if e != api.OK && got != 0 || e == api.OK && got != nextID-1 {
				t.Fatalf("Make: %d", got)
			}
		case 2:
			e := x.Destroy(id)
			if i < 0 {
				is(t, "Destroy", e, api.ErrNone)
			} else {
				is(t, "Destroy", e, api.OK)
				m = slices.Delete(m, i, i+1)
			}
		default:
			e := x.Move(id, p, who)
			switch {
			case i < 0:
				is(t, "Move", e, api.ErrNone)
			case !p.Right() || who < 1:
				is(t, "Move", e, api.ErrForm)
			default:
				is(t, "Move", e, api.OK)
				m[i].Place, m[i].Owner = p, who
			}
		}
		check(t, x, m, nextID)
	}
}

func TestMany(t *testing.T) { // P21.1
	x := New()
	for i := range 4096 {
		if id, e := x.Make("a", 1); id != i+1 || e != api.OK {
			t.Fatalf("Make: %d, %d", id, e)
		}
	}
	_, e := x.Make("a", 1)
	is(t, "Make", e, api.ErrMany)
	_, e = x.Make("", 1)
	is(t, "Make", e, api.ErrName)
	_, e = x.Make("a", 0)
	is(t, "Make", e, api.ErrForm)
	is(t, "Destroy", x.Destroy(7), api.OK)
	if id, e := x.Make("a", 1); id != 4097 || e != api.OK || len(x.In(Place{1, 1, 0})) != 4096 {
		t.Errorf("Make: %d, %d", id, e)
	}
	for _, id := range []int{0, 7, -1, 4098, math.MinInt, math.MaxInt} {
		y, e := x.Get(id)
		if y != (Thing{}) {
			t.Errorf("Get(%d): %v", id, y)
		}
		is(t, "Get", e, api.ErrNone)
		is(t, "Move", x.Move(id, Place{}, 0), api.ErrNone)
		is(t, "Destroy", x.Destroy(id), api.ErrNone)
	}
	n := 0
	for range x.All() {
		n++
		break
	}
	for range x.Owned(1) {
		n++
		break
	}
	x.Move(1, Place{3, 5, 0}, 2)
	for range x.Of(5) {
		n++
		break
	}
	if n != 3 {
		t.Error("as far as it is asked")
	}
	if l := slices.Collect(x.All()); len(l) != 4096 {
		t.Error("All")
	} else if _, ok := Restore(l, 4098); !ok {
		t.Error("Restore of as many as may be")
	} else if _, ok := Restore(append(l, Thing{4098, "a", 1, Place{1, 1, 0}}), 4099); ok {
		t.Error("Restore of one more")
	}
}

func TestRestore(t *testing.T) { // P21.3
	b := Place{1, 1, 0}
	for name, c := range map[string]struct {
		l    []Thing
		next int
		want bool
	}{
		"nothing": {nil, 1, true}, "next 0": {nil, 0, false}, "next far off": {nil, math.MaxInt, false}, "the last next": {nil, 1 << 40, true}, "next too great": {nil, 1<<40 + 1, false},
		"some": {[]Thing{{2, "a", 1, b}, {4, "a", 9, Place{2, 3, 4}}}, 5, true}, "next not above": {[]Thing{{2, "a", 1, b}, {4, "a", 9, b}}, 4, false}, "falling": {[]Thing{{4, "a", 1, b}, {2, "a", 9, b}}, 9, false},
		"twice": {[]Thing{{4, "a", 1, b}, {4, "a", 9, b}}, 9, false}, "a number 0": {[]Thing{{0, "a", 1, b}}, 9, false}, "no name": {[]Thing{{1, "", 1, b}}, 9, false}, "a wrong name": {[]Thing{{1, "A", 1, b}}, 9, false},
		"an owner 0": {[]Thing{{1, "a", 0, b}}, 9, false}, "a wrong place": {[]Thing{{1, "a", 1, Place{1, 1, 1}}}, 9, false}, "no place": {[]Thing{{1, "a", 1, Place{}}}, 9, false},
	} {
		x, ok := Restore(c.l, c.next)
		if ok != c.want || (x != nil) != ok || ok && !slices.Equal(slices.Collect(x.All()), c.l) {
			t.Errorf("%s: %t", name, ok)
		}
	}
}

func TestCopyAndMemory(t *testing.T) { // P21.3
	x := New()
	x.Make("a", 1)
	x.Make("b", 1)
	c := x.Copy()
	c.Move(1, Place{3, 7, 0}, 2)
	c.Make("c", 1)
	clear(x.In(Place{1, 1, 0}))
	check(t, x, []Thing{{1, "a", 1, Place{1, 1, 0}}, {2, "b", 1, Place{1, 1, 0}}}, 3)
	check(t, c, []Thing{{1, "a", 2, Place{3, 7, 0}}, {2, "b", 1, Place{1, 1, 0}}, {3, "c", 1, Place{1, 1, 0}}}, 4)
	l := slices.Collect(x.All())
	r, _ := Restore(l, 3)
	l[0] = Thing{}
	check(t, r, slices.Collect(x.All()), 3)
}
