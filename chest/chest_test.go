package chest

import (
	"math"
	"slices"
	"testing"

	"deedhold/api"
)

func is(t *testing.T, what string, e, want api.Errno) {
	t.Helper()
	if e != want {
		t.Errorf("%s: %d, want %d", what, e, want)
	}
}

func same(a, b []Row) bool {
	return slices.EqualFunc(a, b, func(x, y Row) bool { return x.House == y.House && slices.Equal(x.Needs, y.Needs) })
}

func check(t *testing.T, c *Chests, want ...Row) {
	t.Helper()
	total := 0
	for _, r := range want {
		total += len(r.Needs)
		if c.Len(r.House) != len(r.Needs) {
			t.Errorf("Len(%d): %d", r.House, c.Len(r.House))
		}
		for i, need := range r.Needs {
			got, e := c.Need(r.House, i+1)
			if got != need || e != api.OK {
				t.Errorf("Need(%d, %d): %d, %d", r.House, i+1, got, e)
			}
			for level := -1; level < 6; level++ {
				e := api.OK
				if level < need {
					e = api.ErrDenied
				}
				is(t, "May", c.May(r.House, i+1, level), e)
			}
		}
		for _, n := range []int{0, -1, len(r.Needs) + 1, math.MinInt, math.MaxInt} {
			got, e := c.Need(r.House, n)
			is(t, "Need", e, api.ErrNone)
			is(t, "May", c.May(r.House, n, 9), api.ErrNone)
			is(t, "Alter", c.Alter(r.House, n, 9), api.ErrNone)
			if got != 0 {
				t.Error("a need beside an error")
			}
		}
	}
	if !same(c.Rows(), want) || c.Total() != total {
		t.Errorf("Rows %v, Total %d; want %v", c.Rows(), c.Total(), want)
	}
	if r, ok := Restore(want); !ok || !same(r.Rows(), want) {
		t.Error("Restore")
	}
}

func build(t *testing.T, c *Chests, house, need, want int, e api.Errno) {
	t.Helper()
	if n, got := c.Build(house, need); n != want || got != e {
		t.Errorf("Build(%d, %d): %d, %d; want %d, %d", house, need, n, got, want, e)
	}
}

func TestBuild(t *testing.T) { // P22.1, P22.2
	c := New()
	check(t, c)
	build(t, c, 7, 3, 1, api.OK)
	is(t, "May", c.May(7, 1, 2), api.ErrDenied)
	is(t, "May", c.May(7, 1, 3), api.OK)
	for _, house := range []int{0, -1, math.MinInt} {
		build(t, c, house, 9, 0, api.ErrForm)
	}
	for _, need := range []int{1, 5, 0, -1, math.MinInt, math.MaxInt} {
		build(t, c, 7, need, 0, api.ErrRange)
		build(t, c, 8, need, 0, api.ErrRange)
		is(t, "Alter", c.Alter(7, 1, need), api.ErrRange)
	}
	build(t, c, 7, 2, 2, api.OK)
	build(t, c, 3, 4, 1, api.OK)
	build(t, c, 7, 4, 3, api.OK)
	build(t, c, 7, 4, 4, api.OK)
	build(t, c, 7, 4, 0, api.ErrMany)
	build(t, c, 7, 1, 0, api.ErrRange)
	build(t, c, math.MaxInt, 2, 1, api.OK)
	build(t, c, 1, 2, 1, api.OK)
	c.Clear(1)
	is(t, "Alter", c.Alter(7, 3, 2), api.OK)
	is(t, "Alter", c.Alter(8, 1, 2), api.ErrNone)
	check(t, c, Row{3, []int{4}}, Row{7, []int{3, 2, 2, 4}}, Row{math.MaxInt, []int{2}})
	if c.Len(8) != 0 || c.Len(-1) != 0 || c.Clear(8) != 0 || c.Clear(7) != 4 || c.Clear(7) != 0 {
		t.Error("Len, or Clear")
	}
	check(t, c, Row{3, []int{4}}, Row{math.MaxInt, []int{2}})
	build(t, c, 7, 4, 1, api.OK)
}

func TestRoom(t *testing.T) { // P22.2
	for held, want := range map[int]api.Errno{0: api.OK, 15: api.OK, 16: api.ErrMany, 17: api.ErrMany, -1: api.ErrMany, math.MinInt: api.ErrMany, math.MaxInt: api.ErrMany} {
		is(t, "Room", Room(held), want)
	}
}

func TestRestore(t *testing.T) { // P22.3
	for name, l := range map[string][]Row{
		"falling": {{3, []int{2}}, {2, []int{2}}}, "twice": {{3, []int{2}}, {3, []int{2}}}, "a house 0": {{0, []int{2}}}, "a house below 0": {{-3, []int{2}}}, "none": {{3, nil}},
		"too many": {{3, []int{2, 2, 2, 2, 2}}}, "a need of 1": {{3, []int{2, 1}}}, "a need of 5": {{3, []int{5}}},
	} {
		if c, ok := Restore(l); ok || c != nil {
			t.Error(name)
		}
	}
}

func TestRestoreOfTheLeastHouse(t *testing.T) { // P22.3
	if c, ok := Restore([]Row{{1, []int{2}}}); !ok || c.Len(1) != 1 {
		t.Error("Restore")
	}
}

func TestCopyAndMemory(t *testing.T) { // P22.3
	l := []Row{{3, []int{2, 3}}, {5, []int{4}}}
	c, _ := Restore(l)
	l[0].Needs[0], l[1].House = 4, 9
	o := c.Copy()
	o.Alter(3, 1, 4)
	o.Build(3, 4)
	o.Clear(5)
	rows := c.Rows()
	clear(rows[0].Needs[:cap(rows[0].Needs)])
	check(t, c, Row{3, []int{2, 3}}, Row{5, []int{4}})
	check(t, o, Row{3, []int{4, 3, 4}})
}
