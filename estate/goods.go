package estate

import (
	"deedhold/api"
	"deedhold/thing"
)

// The kinds of places, by the numbers of layer 21.
const (
	_ = iota
	inBank
	inChest
	onFloor
	inStall
)

// bankOf is an account's bank.
func bankOf(who int) thing.Place { return thing.Place{Kind: inBank, House: who} }

func (s *State) makeThing(o Order) Reply { return done(s.things.Make(o.Text, o.Who)) }

// own: is a thing in somebody's bank?
func (s *State) own(who, id int) api.Errno {
	x, e := s.things.Get(id)
	if e == api.OK && x.Place != bankOf(who) {
		e = api.ErrDenied
	}
	return e
}

func (s *State) destroy(o Order) Reply {
	if e := s.own(o.Who, o.A); e != api.OK {
		return refused(e)
	}
	return refused(s.things.Destroy(o.A))
}

func (s *State) store(o Order) Reply {
	if e := s.own(o.Who, o.A); e != api.OK {
		return refused(e)
	}
	if _, ok := s.houses[o.B]; !ok {
		return refused(api.ErrNone)
	}
	p, e := s.placeIn(o.B, o.C)
	if e != api.OK {
		return refused(e)
	}
	what := putIn
	if p.Kind == onFloor {
		what = lockDown
	}
	if e := s.may(o.Who, o.B, what); e != api.OK {
		return refused(e)
	}
	if e := s.roomAt(p); e != api.OK {
		return refused(e)
	}
	return refused(s.things.Move(o.A, p, o.Who))
}

func (s *State) take(o Order) Reply {
	x, e := s.things.Get(o.A)
	if e != api.OK {
		return refused(e)
	}
	switch p := x.Place; p.Kind {
	case inChest:
		e = s.chests.May(p.House, p.Slot, s.houses[p.House].Level(o.Who))
	case onFloor:
		e = s.may(o.Who, p.House, takeUp)
	default:
		e = api.ErrDenied
	}
	if e != api.OK {
		return refused(e)
	}
	return refused(s.things.Move(o.A, bankOf(o.Who), o.Who))
}

func (s *State) open(o Order) Reply {
	if e := s.may(o.Who, o.A, keepStall); e != api.OK {
		return refused(e)
	}
	return refused(s.stalls.Open(o.A))
}

func (s *State) stock(o Order) Reply {
	e := s.own(o.Who, o.A)
	if e == api.OK {
		e = s.may(o.Who, o.B, keepStall)
	}
	if e == api.OK {
		e = s.stalls.Put(o.B, o.A, o.C)
	}
	if e == api.OK {
		e = s.things.Move(o.A, thing.Place{Kind: inStall, House: o.B}, o.Who)
	}
	return refused(e)
}

// good is a thing in a stall, in whose house somebody may do something.
func (s *State) good(who, id, what int) (thing.Thing, api.Errno) {
	x, e := s.things.Get(id)
	if e == api.OK && x.Place.Kind != inStall {
		e = api.ErrDenied
	}
	if e == api.OK {
		e = s.may(who, x.Place.House, what)
	}
	return x, e
}

func (s *State) unstock(o Order) Reply {
	x, e := s.good(o.Who, o.A, keepStall)
	if e == api.OK {
		e = s.stalls.Take(o.A)
	}
	if e == api.OK {
		e = s.things.Move(o.A, bankOf(x.Owner), x.Owner)
	}
	return refused(e)
}

func (s *State) buy(o Order) Reply {
	if _, e := s.good(o.Who, o.A, enter); e != api.OK {
		return refused(e)
	}
	_, price, e := s.stalls.Price(o.A)
	if e == api.OK {
		e = s.folk.Hold(o.Who, price)
	}
	if e != api.OK {
		return refused(e)
	}
	if _, _, e := s.stalls.Sell(o.A); e != api.OK {
		s.folk.Give(o.Who, price)
		return refused(e)
	}
	return done(price, s.things.Move(o.A, bankOf(o.Who), o.Who))
}

func (s *State) collect(o Order) Reply {
	if e := s.may(o.Who, o.A, emptyTill); e != api.OK {
		return refused(e)
	}
	n, e := s.stalls.Collect(o.A)
	if e == api.OK {
		e = s.folk.Give(o.Who, n)
	}
	return done(n, e)
}

func (s *State) bank(o Order) Reply { return Reply{L: s.things.In(bankOf(o.Who))} }
