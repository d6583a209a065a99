package estate

import (
	"slices"
	"testing"

	"deedhold/api"
	"deedhold/deed"
	"deedhold/rect"
)

type chance uint32

func (c *chance) of(n int) int {
	*c = *c*1664525 + 1013904223
	return int(*c>>8) % n
}

// some is an order that may well be done.
func (c *chance) some(s *State) Order {
	p := s.Parts()
	id := func(n int) int { return c.of(n+1) + c.of(2) - c.of(2) }
	o := Order{Who: 1 + c.of(max(1, len(p.Folk))), Kind: 1 + c.of(27), A: id(6), B: id(5), C: id(5), D: c.of(2)}
	house := func() int {
		if len(p.Deeds) == 0 {
			return 1
		}
		return p.Deeds[c.of(len(p.Deeds))].ID
	}
	if len(p.Deeds) > 0 && c.of(3) > 0 {
		o.Who = p.Deeds[c.of(len(p.Deeds))].Holder
	}
	switch o.Kind {
	case enrol, makeThing:
		o.Text = []string{"a", "bob", "c-3", "", "X", "d4", "eve", "fay", "g", "h", "i"}[c.of(11)]
	case mint:
		o.B = c.of(400)
	case claim:
		o.A, o.B, o.C, o.D = c.of(18)-1, c.of(18)-1, c.of(5), c.of(5)
	case demolish, transfer, list, build, open, collect, pay, ask, inside:
		if c.of(9) > 0 {
			o.A = house()
		}
	case destroy, take, unstock, buy, store, stock:
		if len(p.Things) > 0 && c.of(9) > 0 {
			x := p.Things[c.of(len(p.Things))]
			o.A, o.B = x.ID, house()
			if c.of(2) == 0 {
				o.Who = x.Owner
			}
			if o.Kind == stock {
				o.C = c.of(60)
			}
		}
	case auction:
		o.A, o.B, o.C = house(), c.of(20), c.of(120)
	case bidOn:
		if len(p.Auctions) > 0 {
			o.A, o.B = p.Auctions[c.of(len(p.Auctions))].ID, c.of(80)
		}
	case tick:
		o.A = c.of(30)
	}
	if crowns(o.Kind) && c.of(9) > 0 {
		o.Who = 0
	}
	return o
}

// flow is what an order has minted, less what it has burnt.
func flow(o Order, r Reply, s *State) int {
	switch {
	case r.E != api.OK:
		return 0
	case o.Kind == mint:
		return o.B
	case o.Kind == claim:
		return -5 * o.C * o.D
	case o.Kind == pay:
		return -r.N
	}
	return 0
}

func TestAlways(t *testing.T) { // P26.3, P26.4, P26.5
	done := [28]int{}
	for seed := range 12 {
		c := chance(seed)
		s, _ := New(16, []rect.Rect{{X: 7, Y: 7, W: 2, H: 3}})
		for range 2500 {
			o := c.some(s)
			before, gold := s.Parts(), s.Gold()
			levels := [12]int{}
			for n := range levels {
				levels[n] = s.houses[o.A].Level(o.Who)
			}
			r := s.Do(o)
			after := s.Parts()
			if !s.Check() || s.Gold() != gold+flow(o, r, s) {
				t.Fatalf("%+v: %v, Check %t, Gold %d, %d", o, r, s.Check(), gold, s.Gold())
			}
			if r.E != api.OK && (!before.Equal(after) || r.N != 0 || len(r.L) != 0) {
				t.Fatalf("%+v: %v, but something is changed", o, r)
			}
			if r.E == api.OK {
				done[o.Kind]++
				allowed(t, o, levels[0])
			}
			if o.Kind == tick && r.E == api.OK {
				foreclosed(t, before, after)
			}
			if o.Kind >= look && o.Kind != tick && !before.Equal(after) {
				t.Fatalf("%+v: it only asks, but something is changed", o)
			}
		}
	}
	for kind, n := range done {
		if kind > 0 && n < 5 {
			t.Errorf("kind %d was done %d times", kind, n)
		}
	}
}

// allowed: what succeeds does so only for a level that may.
func allowed(t *testing.T, o Order, level int) {
	t.Helper()
	need := map[int]int{demolish: 4, transfer: 4, build: 4, open: 4, collect: 4, auction: 4, pay: 1, inside: 1}[o.Kind]
	if o.Kind == list {
		need = 3
		if o.B == 1 {
			need = 4
		}
	}
	if level < need {
		t.Fatalf("%+v: done by one of the level %d", o, level)
	}
}

// foreclosed: no house is left that has lapsed, and what was in those that are gone is in its owners' banks.
func foreclosed(t *testing.T, before, after Parts) {
	t.Helper()
	for _, x := range after.Rents {
		if after.Now > x.Due+40 {
			t.Fatalf("%v has lapsed at %d", x, after.Now)
		}
	}
	for _, x := range before.Rents {
		gone := !slices.ContainsFunc(after.Deeds, func(d deed.Deed) bool { return d.ID == x.House })
		if gone != (after.Now > x.Due+40) {
			t.Fatalf("%v at %d: gone %t", x, after.Now, gone)
		}
		for i, y := range before.Things {
			if z := after.Things[i]; gone && y.Place.Kind != inBank && y.Place.House == x.House && (z.Place != bankOf(y.Owner) || z.Owner != y.Owner) {
				t.Fatalf("%v is at %v", y, z)
			}
		}
	}
}
