package access

import (
	"math"
	"slices"
	"testing"

	"deedhold/api"
)

func upTo(n int) []int {
	var l []int
	for i := range n {
		l = append(l, i+2)
	}
	return l
}

func TestNew(t *testing.T) { // P18.1
	h := New(7)
	if h.Owner != 7 || len(h.Co)+len(h.Friends)+len(h.Bans) != 0 || !h.Right() {
		t.Errorf("%v", h)
	}
}

func TestRight(t *testing.T) { // P18.1
	for name, c := range map[string]struct {
		h    House
		want bool
	}{
		"zero": {House{}, false}, "an owner": {House{Owner: 256}, true}, "an owner too great": {House{Owner: 257}, false}, "an owner below 1": {House{Owner: -1}, false},
		"lists": {House{1, []int{2, 3}, []int{2}, []int{2, 256}}, true}, "full lists": {House{1, upTo(16), upTo(16), upTo(16)}, true},
		"too many co-owners": {House{1, upTo(17), nil, nil}, false}, "too many friends": {House{1, nil, upTo(17), nil}, false}, "too many banned": {House{1, nil, nil, upTo(17)}, false},
		"the owner, a co-owner": {House{3, []int{2, 3}, nil, nil}, false}, "the owner, a friend": {House{3, nil, []int{3}, nil}, false}, "the owner, banned": {House{3, nil, nil, []int{1, 3}}, false},
		"falling": {House{1, nil, []int{3, 2}, nil}, false}, "twice": {House{1, nil, nil, []int{2, 2}}, false}, "a person below 1": {House{1, []int{0}, nil, nil}, false},
		"a person too great": {House{1, []int{2, 257}, nil, nil}, false},
	} {
		if c.h.Right() != c.want {
			t.Errorf("%s: %t", name, !c.want)
		}
	}
}

func TestLevel(t *testing.T) { // P18.1
	h := House{5, []int{1, 2, 5, 9}, []int{2, 3, 4}, []int{4, 5, 9}}
	for p, want := range map[int]int{1: 3, 2: 3, 3: 2, 4: 0, 5: 4, 6: 1, 9: 0, 256: 1, 257: 1, 0: 0, -1: 0, math.MinInt: 0, math.MaxInt: 1} {
		if h.Level(p) != want {
			t.Errorf("Level(%d): %d", p, h.Level(p))
		}
	}
	for _, owner := range []int{0, -3} {
		if New(owner).Level(owner) != 0 {
			t.Error("one below 1 owns")
		}
	}
	if (House{1, []int{9, 3}, nil, nil}).Level(3) != 3 {
		t.Error("a list that doesn't rise")
	}
}

func TestNeedsMay(t *testing.T) { // P18.1
	want := []int{5, 1, 2, 3, 3, 3, 4, 4, 4, 4, 4, 4, 5}
	h := House{1, []int{2}, []int{3}, []int{4}}
	level := []int{0, 4, 3, 2, 0, 1}
	for what, n := range want {
		if Needs(what) != n {
			t.Errorf("Needs(%d): %d", what, Needs(what))
		}
		for p, l := range level {
			e := api.OK
			if l < n {
				e = api.ErrDenied
			}
			if h.May(p, what) != e {
				t.Errorf("May(%d, %d): %d", p, what, h.May(p, what))
			}
		}
	}
	if Needs(math.MinInt) != 5 || Needs(math.MaxInt) != 5 || h.May(1, -1) != api.ErrDenied {
		t.Error("Needs, far off")
	}
}

func TestSet(t *testing.T) { // P18.2
	h := House{1, []int{4, 9}, upTo(16), nil}
	for _, c := range []struct {
		list, p int
		on      bool
		e       api.Errno
	}{
		{0, 2, true, api.ErrRange}, {4, 2, true, api.ErrRange}, {-1, 1, true, api.ErrRange}, {math.MaxInt, 1, false, api.ErrRange}, {1, 0, true, api.ErrRange}, {1, 257, true, api.ErrRange},
		{1, math.MinInt, false, api.ErrRange}, {1, 1, true, api.ErrOwn}, {3, 1, false, api.ErrOwn}, {1, 4, true, api.ErrTwice}, {2, 17, true, api.ErrTwice}, {2, 18, true, api.ErrMany},
		{1, 5, false, api.ErrNone}, {3, 5, false, api.ErrNone}, {2, 18, false, api.ErrNone},
	} {
		got, e := h.Set(c.list, c.p, c.on)
		if e != c.e || !got.Equal(House{}) {
			t.Errorf("Set(%d, %d, %t): %v, %d", c.list, c.p, c.on, got, e)
		}
	}
	for _, c := range []struct {
		list, p int
		on      bool
		want    House
	}{
		{1, 2, true, House{1, []int{2, 4, 9}, upTo(16), nil}}, {1, 5, true, House{1, []int{4, 5, 9}, upTo(16), nil}}, {1, 256, true, House{1, []int{4, 9, 256}, upTo(16), nil}},
		{3, 4, true, House{1, []int{4, 9}, upTo(16), []int{4}}}, {1, 4, false, House{1, []int{9}, upTo(16), nil}}, {1, 9, false, House{1, []int{4}, upTo(16), nil}},
		{2, 17, false, House{1, []int{4, 9}, upTo(15), nil}},
	} {
		got, e := h.Set(c.list, c.p, c.on)
		if e != api.OK || !got.Equal(c.want) || !got.Right() {
			t.Errorf("Set(%d, %d, %t): %v, %d", c.list, c.p, c.on, got, e)
		}
	}
}

func TestMemory(t *testing.T) { // P18.2
	spare := []int{4, 9, 77, 78}
	h := House{1, spare[:2], []int{2, 3}, []int{5}}
	a, _ := h.Set(1, 5, true)
	b, _ := h.Set(1, 4, false)
	for _, x := range []House{a, b} {
		for _, l := range [][]int{x.Co, x.Friends, x.Bans} {
			clear(l[:cap(l)])
		}
	}
	for i := range 5 {
		l := h.Lists(i)
		clear(l[:cap(l)])
	}
	if !slices.Equal(spare, []int{4, 9, 77, 78}) || !h.Equal(House{1, []int{4, 9}, []int{2, 3}, []int{5}}) {
		t.Errorf("the house is changed: %v, %v", h, spare)
	}
	if !slices.Equal(h.Lists(1), h.Co) || !slices.Equal(h.Lists(2), h.Friends) || !slices.Equal(h.Lists(3), h.Bans) || len(h.Lists(0))+len(h.Lists(4))+len(h.Lists(math.MinInt)) != 0 {
		t.Error("Lists")
	}
}

func TestEqual(t *testing.T) { // P18.1
	h := House{1, []int{2}, []int{3}, []int{4}}
	for _, o := range []House{{2, []int{2}, []int{3}, []int{4}}, {1, []int{3}, []int{3}, []int{4}}, {1, []int{2}, nil, []int{4}}, {1, []int{2}, []int{3}, []int{4, 5}}} {
		if h.Equal(o) || o.Equal(h) {
			t.Errorf("%v is not %v", h, o)
		}
	}
	if !h.Equal(House{1, []int{2}, []int{3}, []int{4}}) || !New(3).Equal(House{3, []int{}, []int{}, []int{}}) {
		t.Error("Equal")
	}
}
