package estate

import (
	"slices"

	"deedhold/api"
	"deedhold/bid"
)

// mostTicks is how long an auction may last.
const mostTicks = 1000

func (s *State) pay(o Order) Reply {
	if e := s.may(o.Who, o.A, enter); e != api.OK {
		return refused(e)
	}
	cost, e := s.rents.Cost(o.A, o.B)
	if e != api.OK {
		return refused(e)
	}
	// Paid on a copy, because the gold is asked for behind it.
	paid := s.rents.Copy()
	if e := paid.Pay(o.A, o.B, s.now); e != api.OK {
		return refused(e)
	}
	if e := s.folk.Burn(o.Who, cost); e != api.OK {
		return refused(e)
	}
	s.rents = paid
	return done(cost, api.OK)
}

func (s *State) auction(o Order) Reply {
	if e := s.may(o.Who, o.A, giveAway); e != api.OK {
		return refused(e)
	}
	if o.C < 1 || o.C > mostTicks {
		return refused(api.ErrRange)
	}
	return done(s.bids.Open(o.A, s.houses[o.A].Owner, o.B, s.now+o.C))
}

func (s *State) bid(o Order) Reply {
	// Bid on a copy, because the gold is asked for behind it.
	bids := s.bids.Copy()
	was, e := bids.Bid(o.A, o.Who, o.B)
	if e == api.OK {
		e = s.folk.Hold(o.Who, o.B)
	}
	if e != api.OK {
		return refused(e)
	}
	s.bids = bids
	s.giveBack(was)
	return done(was.Bidder, api.OK)
}

// giveBack gives the best bid of an auction to who bid it.
func (s *State) giveBack(a bid.Auction) {
	if a.Bidder != 0 {
		s.folk.Give(a.Bidder, a.Best)
	}
}

func (s *State) tick(o Order) Reply {
	if o.A < 1 || o.A > api.MaxTick-s.now {
		return refused(api.ErrRange)
	}
	s.now += o.A
	n := 0
	for a := range s.bids.Ended(s.now) {
		s.settle(a)
		n++
	}
	// Told ahead of what is done, because it drops rents.
	for _, house := range slices.Collect(s.rents.Lapsed(s.now)) {
		s.foreclose(house)
		n++
	}
	return done(n, api.OK)
}

// settle ends an auction.
func (s *State) settle(a bid.Auction) {
	if a.Bidder == 0 {
		return
	}
	if s.hand(a.Deed, a.Bidder) != api.OK {
		s.giveBack(a)
		return
	}
	s.folk.Give(a.Seller, a.Best)
}

// foreclose takes a house away whose rent was not paid.
func (s *State) foreclose(house int) {
	if a, ok := s.bids.Of(house); ok {
		s.bids.Close(a.ID)
		s.giveBack(a)
	}
	s.clear(house)
}
