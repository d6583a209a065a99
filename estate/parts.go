package estate

import (
	"slices"

	"deedhold/access"
	"deedhold/api"
	"deedhold/bid"
	"deedhold/chest"
	"deedhold/deed"
	"deedhold/folk"
	"deedhold/rect"
	"deedhold/rent"
	"deedhold/stall"
	"deedhold/thing"
)

// Plot is where a house is.
type Plot struct {
	ID   int
	Rect rect.Rect
}

// Parts is all that a state has.
type Parts struct {
	Now       int
	Folk      []folk.Row
	Held      int
	Plots     []Plot
	Houses    []access.House
	Deeds     []deed.Deed
	NextDeed  int
	Things    []thing.Thing
	NextThing int
	Chests    []chest.Row
	Stalls    []stall.Row
	Rents     []rent.Row
	Auctions  []bid.Auction
	NextBid   int
}

// Parts: all that it has.
func (s *State) Parts() Parts {
	p := Parts{
		Now:       s.now,
		Folk:      s.folk.Rows(),
		Held:      s.folk.Held(),
		Deeds:     slices.Collect(s.deeds.All()),
		NextDeed:  s.deeds.Next(),
		Things:    slices.Collect(s.things.All()),
		NextThing: s.things.Next(),
		Chests:    s.chests.Rows(),
		Stalls:    s.stalls.Rows(),
		Rents:     s.rents.Rows(),
		Auctions:  s.bids.Rows(),
		NextBid:   s.bids.Next(),
	}
	for id, r := range s.land.All() {
		p.Plots = append(p.Plots, Plot{id, r})
	}
	for _, d := range p.Deeds {
		p.Houses = append(p.Houses, copyOf(s.houses[d.ID]))
	}
	return p
}

// copyOf is a house with lists of its own.
func copyOf(h access.House) access.House {
	return access.House{Owner: h.Owner, Co: h.Lists(1), Friends: h.Lists(2), Bans: h.Lists(3)}
}

// Restore: with some parts.
func Restore(side int, blocked []rect.Rect, p Parts) (*State, bool) {
	s, e := New(side, blocked)
	if e != api.OK || p.Now < 0 || p.Now > api.MaxTick || len(p.Houses) != len(p.Deeds) {
		return nil, false
	}
	s.now = p.Now
	if !s.restoreLayers(p) || !s.claimAll(p.Plots) {
		return nil, false
	}
	for i, d := range p.Deeds {
		s.houses[d.ID] = copyOf(p.Houses[i])
	}
	if !s.fits(p) {
		return nil, false
	}
	return s, true
}

// restoreLayers restores what has a Restore of its own.
func (s *State) restoreLayers(p Parts) bool {
	var ok [7]bool
	s.folk, ok[0] = folk.Restore(p.Folk, p.Held)
	s.deeds, ok[1] = deed.Restore(p.Deeds, p.NextDeed)
	s.things, ok[2] = thing.Restore(p.Things, p.NextThing)
	s.chests, ok[3] = chest.Restore(p.Chests)
	s.stalls, ok[4] = stall.Restore(p.Stalls)
	s.rents, ok[5] = rent.Restore(p.Rents)
	s.bids, ok[6] = bid.Restore(p.Auctions, p.NextBid)
	return !slices.Contains(ok[:], false)
}

// claimAll claims plots, which must rise.
func (s *State) claimAll(plots []Plot) bool {
	last := 0
	for _, x := range plots {
		if x.ID <= last || s.land.Claim(x.ID, x.Rect) != api.OK {
			return false
		}
		last = x.ID
	}
	return true
}

// every: is each of a list as asked?
func every[T any](l []T, is func(T) bool) bool {
	for _, x := range l {
		if !is(x) {
			return false
		}
	}
	return true
}

// fits: do its layers fit together?
func (s *State) fits(p Parts) bool {
	return len(p.Plots) == len(p.Deeds) && len(p.Rents) == len(p.Deeds) &&
		every(p.Deeds, s.deedFits) &&
		every(p.Houses, access.House.Right) &&
		every(p.Houses, s.knows) &&
		every(p.Things, s.thingFits) &&
		every(p.Chests, s.chestFits) &&
		every(p.Stalls, s.stallFits) &&
		every(p.Auctions, s.auctionFits) &&
		s.folk.Held() == s.stalls.Total()+s.bids.Held()
}

// deedFits: has a deed a plot, a house and a rent of its number?
func (s *State) deedFits(d deed.Deed) bool {
	_, plot := s.land.Plot(d.ID)
	_, e := s.rents.Get(d.ID)
	return plot && e == api.OK && d.Plot == d.ID && s.houses[d.ID].Owner == d.Holder && s.folk.Has(d.Holder) &&
		len(s.things.In(thing.Place{Kind: onFloor, House: d.ID})) <= api.MaxHeld
}

// knows: are all persons on a house's lists accounts?
func (s *State) knows(h access.House) bool {
	return every(h.Co, s.folk.Has) && every(h.Friends, s.folk.Has) && every(h.Bans, s.folk.Has)
}

// isHouse: is there a house with a number?
func (s *State) isHouse(id int) bool {
	_, ok := s.houses[id]
	return ok
}

// thingFits: is a thing an account's, and where one may be?
func (s *State) thingFits(x thing.Thing) bool {
	if !s.folk.Has(x.Owner) {
		return false
	}
	p := x.Place
	switch p.Kind {
	case inBank:
		return s.folk.Has(p.House)
	case inChest:
		return p.Slot <= s.chests.Len(p.House)
	case onFloor:
		return s.isHouse(p.House)
	}
	house, _, e := s.stalls.Price(x.ID)
	return e == api.OK && house == p.House
}

// chestFits: is a row of chests a house's, and none too full?
func (s *State) chestFits(r chest.Row) bool {
	for i := range r.Needs {
		if len(s.things.In(thing.Place{Kind: inChest, House: r.House, Slot: i + 1})) > api.MaxHeld {
			return false
		}
	}
	return s.isHouse(r.House)
}

// stallFits: is a stall a house's, and is each of its goods a thing there?
func (s *State) stallFits(r stall.Row) bool {
	return s.isHouse(r.House) && every(r.Goods, func(g stall.Good) bool {
		x, e := s.things.Get(g.Thing)
		return e == api.OK && x.Place == thing.Place{Kind: inStall, House: r.House}
	})
}

// auctionFits: is an auction of a deed that is there, by who holds it, and its bidder an account?
func (s *State) auctionFits(a bid.Auction) bool {
	d, e := s.deeds.Get(a.Deed)
	return e == api.OK && d.Holder == a.Seller && (a.Bidder == 0 || s.folk.Has(a.Bidder))
}

// Check: is all as it must be?
func (s *State) Check() bool {
	_, ok := Restore(s.land.Side(), slices.Collect(s.land.Stones()), s.Parts())
	return ok && len(s.houses) == s.deeds.Len()
}

// Equal: are both the same?
func (p Parts) Equal(o Parts) bool {
	return p.numbers() == o.numbers() &&
		slices.Equal(p.Folk, o.Folk) &&
		slices.Equal(p.Plots, o.Plots) &&
		slices.EqualFunc(p.Houses, o.Houses, access.House.Equal) &&
		slices.Equal(p.Deeds, o.Deeds) &&
		slices.Equal(p.Things, o.Things) &&
		slices.EqualFunc(p.Chests, o.Chests, sameChests) &&
		slices.EqualFunc(p.Stalls, o.Stalls, sameStall) &&
		slices.Equal(p.Rents, o.Rents) &&
		slices.Equal(p.Auctions, o.Auctions)
}

// numbers are those that there are once.
func (p Parts) numbers() [5]int { return [5]int{p.Now, p.Held, p.NextDeed, p.NextThing, p.NextBid} }

func sameChests(a, b chest.Row) bool { return a.House == b.House && slices.Equal(a.Needs, b.Needs) }

func sameStall(a, b stall.Row) bool {
	return a.House == b.House && a.Till == b.Till && slices.Equal(a.Goods, b.Goods)
}
