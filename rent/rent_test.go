package rent

import (
	"math"
	"slices"
	"testing"

	"deedhold/api"
)

func is(t *testing.T, what string, e, want api.Errno) {
	t.Helper()
	if e != want {
		t.Errorf("%s: %d, want %d", what, e, want)
	}
}

func check(t *testing.T, r *Rents, want ...Row) {
	t.Helper()
	if !slices.Equal(r.Rows(), want) || r.Len() != len(want) {
		t.Errorf("Rows %v, Len %d; want %v", r.Rows(), r.Len(), want)
	}
	for _, x := range want {
		if got, e := r.Get(x.House); got != x || e != api.OK {
			t.Errorf("Get(%d): %v, %d", x.House, got, e)
		}
	}
	if o, ok := Restore(want); !ok || !slices.Equal(o.Rows(), want) {
		t.Error("Restore")
	}
}

func TestAdd(t *testing.T) { // P24.1
	r := New()
	check(t, r)
	is(t, "Add", r.Add(7, 5, 0), api.OK)
	is(t, "Add", r.Add(3, api.MaxGold, api.MaxTick), api.OK)
	for name, c := range map[string]struct {
		house, rate, now int
		e                api.Errno
	}{
		"a house 0": {0, 0, 0, api.ErrForm}, "a house below 0": {math.MinInt, 1, 0, api.ErrForm}, "a rate 0": {7, 0, 0, api.ErrRange}, "a rate too great": {8, api.MaxGold + 1, 0, api.ErrRange},
		"a time below 0": {8, 1, -1, api.ErrRange}, "a time too great": {8, 1, api.MaxTick + 1, api.ErrRange}, "twice": {7, 1, 1, api.ErrTwice}, "a rate far off": {7, math.MinInt, 1, api.ErrRange},
	} {
		is(t, name, r.Add(c.house, c.rate, c.now), c.e)
	}
	check(t, r, Row{3, api.MaxGold, api.MaxTick + 100}, Row{7, 5, 100})
	is(t, "the least house", r.Add(1, 1, 0), api.OK)
	is(t, "Drop", r.Drop(7), api.OK)
	for _, house := range []int{7, 0, -1, math.MaxInt} {
		x, e := r.Get(house)
		n, f := r.Cost(house, 99)
		s, g := r.Stage(house, 0)
		if x != (Row{}) || n != 0 || s != 0 {
			t.Error("something beside an error")
		}
		for _, e := range []api.Errno{e, f, g, r.Pay(house, 99, -1), r.Drop(house)} {
			is(t, "no rent", e, api.ErrNone)
		}
	}
}

func TestStage(t *testing.T) { // P24.1
	r := New()
	r.Add(7, 5, 0)
	for now, want := range map[int]int{100: 0, 0: 0, -5: 0, math.MinInt: 0, 101: 1, 110: 1, 111: 2, 120: 2, 121: 3, 130: 3, 131: 4, 140: 4, 141: 5, 150: 5, 1000: 5, math.MaxInt: 5} {
		if s, e := r.Stage(7, now); s != want || e != api.OK {
			t.Errorf("Stage at %d: %d, %d", now, s, e)
		}
	}
}

func TestPay(t *testing.T) { // P24.1
	r := New()
	r.Add(7, 5, 0)
	r.Add(8, api.MaxGold/3, 0)
	for _, c := range []struct {
		house, n, want int
		e              api.Errno
	}{{7, 1, 5, api.OK}, {7, 12, 60, api.OK}, {7, 0, 0, api.ErrRange}, {7, 13, 0, api.ErrRange}, {7, math.MinInt, 0, api.ErrRange}, {8, 3, api.MaxGold / 3 * 3, api.OK}, {8, 4, 0, api.ErrOverflow}, {8, 13, 0, api.ErrRange}} {
		if n, e := r.Cost(c.house, c.n); n != c.want || e != c.e {
			t.Errorf("Cost(%d, %d): %d, %d", c.house, c.n, n, e)
		}
	}
	is(t, "12 ahead", r.Pay(7, 12, 99), api.ErrLimit)
	is(t, "12 ahead", r.Pay(7, 12, 100), api.OK)
	is(t, "one more", r.Pay(7, 1, 199), api.ErrLimit)
	is(t, "one more", r.Pay(7, 1, 200), api.OK)
	is(t, "0 periods", r.Pay(7, 0, 0), api.ErrRange)
	is(t, "13 periods", r.Pay(7, 13, 0), api.ErrRange)
	is(t, "no tick", r.Pay(7, 1, -1), api.ErrRange)
	is(t, "no tick", r.Pay(7, 1, api.MaxTick+1), api.ErrRange)
	is(t, "no tick", r.Pay(7, 1, math.MaxInt), api.ErrRange)
	is(t, "very late", r.Pay(8, 2, api.MaxTick), api.OK)
	check(t, r, Row{7, 5, 1400}, Row{8, api.MaxGold / 3, 300})
	o, _ := Restore([]Row{{1, 1, 1 << 42}})
	is(t, "due in a very long time", o.Pay(1, 1, api.MaxTick), api.ErrLimit)
}

func TestLapsed(t *testing.T) { // P24.2
	l := []Row{{1, 1, 300}, {2, 1, 100}, {3, 1, 200}, {4, 1, 100}, {9, 1, 0}}
	for now, want := range map[int][]int{-1: nil, math.MinInt: nil, 0: nil, 40: nil, 41: {9}, 140: {9}, 141: {9, 2, 4}, 240: {9, 2, 4}, 241: {9, 2, 4, 3}, 341: {9, 2, 4, 3, 1}, math.MaxInt: {9, 2, 4, 3, 1}} {
		r, _ := Restore(l)
		seq := r.Lapsed(now)
		if r.Len() != 5 {
			t.Error("they lapse ahead of the loop")
		}
		if got := slices.Collect(seq); !slices.Equal(got, want) {
			t.Errorf("Lapsed(%d): %v", now, got)
		}
		check(t, r, slices.DeleteFunc(slices.Clone(l), func(x Row) bool { return slices.Contains(want, x.House) })...)
	}
	r, _ := Restore(l)
	for house := range r.Lapsed(500) {
		if house == 2 {
			break
		}
	}
	check(t, r, Row{1, 1, 300}, Row{3, 1, 200}, Row{4, 1, 100})
	for _, want := range [][2]int{{4, 141}, {3, 241}, {1, 341}} {
		house, tick, ok := r.First()
		if house != want[0] || tick != want[1] || !ok {
			t.Errorf("First: %d, %d, %t; want %v", house, tick, ok, want)
		}
		if s, _ := r.Stage(house, tick-1); s != 4 {
			t.Error("it lapses later than it may")
		}
		if s, _ := r.Stage(house, tick); s != 5 {
			t.Error("it has not lapsed")
		}
		r.Drop(house)
	}
	if house, tick, ok := r.First(); house != 0 || tick != 0 || ok {
		t.Error("First of none")
	}
}

func TestRestore(t *testing.T) { // P24.3
	for name, c := range map[string]struct {
		l    []Row
		want bool
	}{
		"nothing": {nil, true}, "some": {[]Row{{1, 1, 0}, {5, api.MaxGold, 1 << 42}}, true}, "falling": {[]Row{{5, 1, 0}, {1, 1, 0}}, false}, "twice": {[]Row{{5, 1, 0}, {5, 1, 0}}, false},
		"a house 0": {[]Row{{0, 1, 0}}, false}, "a rate 0": {[]Row{{1, 0, 0}}, false}, "a rate too great": {[]Row{{1, api.MaxGold + 1, 0}}, false}, "due below 0": {[]Row{{1, 1, -1}}, false},
		"due too late": {[]Row{{1, 1, 1<<42 + 1}}, false},
	} {
		if r, ok := Restore(c.l); ok != c.want || (r != nil) != ok || ok && !slices.Equal(r.Rows(), c.l) {
			t.Errorf("%s: %t", name, ok)
		}
	}
}

func TestCopyAndMemory(t *testing.T) { // P24.3
	r := New()
	r.Add(7, 5, 0)
	c := r.Copy()
	c.Pay(7, 1, 100)
	c.Add(8, 1, 0)
	clear(r.Rows())
	check(t, r, Row{7, 5, 100})
	check(t, c, Row{7, 5, 200}, Row{8, 1, 100})
}
