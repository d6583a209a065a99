package estate

import (
	"slices"

	"deedhold/access"
	"deedhold/api"
	"deedhold/chest"
	"deedhold/gold"
	"deedhold/rect"
	"deedhold/thing"
)

// tilePrice is what is burnt for each tile of a plot.
const tilePrice = 5

// What is done in a house, by the numbers of layer 18.
const (
	_ = iota
	enter
	putIn
	lockDown
	takeUp
	befriend
	appoint
	buildChest
	keepStall
	emptyTill
	giveAway
	tearDown
)

// coOwners is the list that only the owner may change.
const coOwners = 1

func (s *State) enrol(o Order) Reply { return done(s.folk.Add(o.Text)) }

func (s *State) mint(o Order) Reply { return refused(s.folk.Mint(o.A, o.B)) }

func (s *State) give(o Order) Reply { return refused(s.folk.Move(o.Who, o.A, o.B)) }

// may: is a house there, and may somebody do something in it?
func (s *State) may(who, house, what int) api.Errno {
	h, ok := s.houses[house]
	if !ok {
		return api.ErrNone
	}
	return h.May(who, what)
}

// free: may somebody do something in a house whose deed is not auctioned?
func (s *State) free(who, house, what int) api.Errno {
	if e := s.may(who, house, what); e != api.OK {
		return e
	}
	if _, ok := s.bids.Of(house); ok {
		return api.ErrState
	}
	return api.OK
}

func (s *State) claim(o Order) Reply {
	r := rect.Rect{X: o.A, Y: o.B, W: o.C, H: o.D}
	if e := s.land.May(r); e != api.OK {
		return refused(e)
	}
	if e := s.deeds.May(o.Who); e != api.OK {
		return refused(e)
	}
	price, e := gold.Times(r.Area(), tilePrice)
	if e == api.OK {
		e = s.folk.Burn(o.Who, price)
	}
	if e != api.OK {
		return refused(e)
	}
	id, _ := s.deeds.Issue(s.deeds.Next(), o.Who)
	s.land.Claim(id, r)
	s.rents.Add(id, r.Area(), s.now)
	s.houses[id] = access.New(o.Who)
	return done(id, api.OK)
}

func (s *State) demolish(o Order) Reply {
	if e := s.free(o.Who, o.A, tearDown); e != api.OK {
		return refused(e)
	}
	s.clear(o.A)
	return done(0, api.OK)
}

// clear takes a house away; what was in it goes to whom it belongs.
func (s *State) clear(house int) {
	for _, x := range slices.Collect(s.things.Of(house)) {
		s.things.Move(x.ID, bankOf(x.Owner), x.Owner)
	}
	if row, e := s.stalls.Close(house); e == api.OK {
		s.folk.Give(s.houses[house].Owner, row.Till)
	}
	s.chests.Clear(house)
	s.rents.Drop(house)
	s.land.Free(house)
	s.deeds.Void(house)
	delete(s.houses, house)
}

func (s *State) transfer(o Order) Reply {
	e := s.free(o.Who, o.A, giveAway)
	if e == api.OK && !s.folk.Has(o.B) {
		e = api.ErrNone
	}
	if e == api.OK && s.houses[o.A].Owner == o.B {
		e = api.ErrOwn
	}
	if e == api.OK {
		e = s.hand(o.A, o.B)
	}
	return refused(e)
}

// hand gives a house to another owner, with empty lists.
func (s *State) hand(house, to int) api.Errno {
	e := s.deeds.Move(house, to)
	if e == api.OK {
		s.houses[house] = access.New(to)
	}
	return e
}

func (s *State) list(o Order) Reply {
	h, ok := s.houses[o.A]
	if !ok {
		return refused(api.ErrNone)
	}
	if o.D != 0 && o.D != 1 {
		return refused(api.ErrRange)
	}
	what := befriend
	if o.B == coOwners {
		what = appoint
	}
	if e := h.May(o.Who, what); e != api.OK {
		return refused(e)
	}
	if !s.folk.Has(o.C) {
		return refused(api.ErrNone)
	}
	h, e := h.Set(o.B, o.C, o.D == 1)
	if e == api.OK {
		s.houses[o.A] = h
	}
	return refused(e)
}

func (s *State) build(o Order) Reply {
	if e := s.may(o.Who, o.A, buildChest); e != api.OK {
		return refused(e)
	}
	return done(s.chests.Build(o.A, o.B))
}

func (s *State) look(o Order) Reply {
	id, _ := s.land.At(o.A, o.B)
	return done(id, api.OK)
}

func (s *State) near(o Order) Reply {
	return Reply{L: s.land.Near(rect.Rect{X: o.A, Y: o.B, W: o.C, H: o.D})}
}

func (s *State) ask(o Order) Reply {
	h, ok := s.houses[o.A]
	if !ok {
		return refused(api.ErrNone)
	}
	r, _ := s.land.Plot(o.A)
	due, _ := s.rents.Get(o.A)
	stage, _ := s.rents.Stage(o.A, s.now)
	a, _ := s.bids.Of(o.A)
	return Reply{L: []int{r.X, r.Y, r.W, r.H, h.Owner, h.Level(o.Who), due.Due, stage, s.chests.Len(o.A), a.ID}}
}

func (s *State) purse(o Order) Reply { return done(s.folk.Gold(o.Who)) }

func (s *State) inside(o Order) Reply {
	if _, ok := s.houses[o.A]; !ok {
		return refused(api.ErrNone)
	}
	p, e := s.placeIn(o.A, o.B)
	if e == api.OK {
		e = s.may(o.Who, o.A, enter)
	}
	if e != api.OK {
		return refused(e)
	}
	return Reply{L: s.things.In(p)}
}

// placeIn is the floor of a house, or a chest that is there.
func (s *State) placeIn(house, n int) (thing.Place, api.Errno) {
	if n == 0 {
		return thing.Place{Kind: onFloor, House: house}, api.OK
	}
	if _, e := s.chests.Need(house, n); e != api.OK {
		return thing.Place{}, e
	}
	return thing.Place{Kind: inChest, House: house, Slot: n}, api.OK
}

// roomAt: is there room for one thing more?
func (s *State) roomAt(p thing.Place) api.Errno { return chest.Room(len(s.things.In(p))) }
