package keep

import (
	"deedhold/access"
	"deedhold/api"
	"deedhold/bid"
	"deedhold/chest"
	"deedhold/folk"
	"deedhold/rect"
	"deedhold/stall"
	"deedhold/thing"
	"deedhold/varint"
)

// coder makes bytes of a type's values by two functions, of which one reads what the other writes.
type coder[T any] struct {
	write func(o *varint.Out, v T)
	read  func(in *varint.In) T
}

// Bytes: a value's.
func (c coder[T]) Bytes(v T) []byte {
	var o varint.Out
	c.write(&o, v)
	return o.All()
}

// Parse: the value of bytes.
func (c coder[T]) Parse(b []byte) (T, bool) {
	in := varint.NewIn(b)
	v := c.read(in)
	if !in.Done() {
		var none T
		return none, false
	}
	return v, true
}

// writeInts writes numbers, one behind the other.
func writeInts(o *varint.Out, l ...int) *varint.Out {
	for _, n := range l {
		o.Int(n)
	}
	return o
}

// text and ints read as many as a record may have: what rows may have is the other layers' to say.
func text(in *varint.In) string { return in.Text(api.MaxRecord) }

func ints(in *varint.In) []int { return in.Ints(api.MaxRecord) }

func metaCoder() coder[Meta] {
	return coder[Meta]{
		write: func(o *varint.Out, m Meta) {
			writeInts(o, m.Now, m.Held, m.NextDeed, m.NextThing, m.NextBid).Ints(m.Roots...)
		},
		read: func(in *varint.In) Meta {
			return Meta{Now: in.Int(), Held: in.Int(), NextDeed: in.Int(), NextThing: in.Int(), NextBid: in.Int(), Roots: ints(in)}
		},
	}
}

func folkCoder() coder[folk.Row] {
	return coder[folk.Row]{
		write: func(o *varint.Out, r folk.Row) { o.Text(r.Name).Int(r.Gold) },
		read:  func(in *varint.In) folk.Row { return folk.Row{Name: text(in), Gold: in.Int()} },
	}
}

func houseCoder() coder[House] {
	return coder[House]{
		write: func(o *varint.Out, h House) {
			writeInts(o, h.Rect.X, h.Rect.Y, h.Rect.W, h.Rect.H, h.Lists.Owner)
			o.Ints(h.Lists.Co...).Ints(h.Lists.Friends...).Ints(h.Lists.Bans...)
			writeInts(o, h.Rate, h.Due)
		},
		read: func(in *varint.In) House {
			return House{
				Rect:  rect.Rect{X: in.Int(), Y: in.Int(), W: in.Int(), H: in.Int()},
				Lists: access.House{Owner: in.Int(), Co: ints(in), Friends: ints(in), Bans: ints(in)},
				Rate:  in.Int(),
				Due:   in.Int(),
			}
		},
	}
}

func thingCoder() coder[thing.Thing] {
	return coder[thing.Thing]{
		write: func(o *varint.Out, x thing.Thing) {
			writeInts(o.Int(x.ID).Text(x.Name), x.Owner, x.Place.Kind, x.Place.House, x.Place.Slot)
		},
		read: func(in *varint.In) thing.Thing {
			return thing.Thing{
				ID:    in.Int(),
				Name:  text(in),
				Owner: in.Int(),
				Place: thing.Place{Kind: in.Int(), House: in.Int(), Slot: in.Int()},
			}
		},
	}
}

func chestCoder() coder[chest.Row] {
	return coder[chest.Row]{
		write: func(o *varint.Out, r chest.Row) { o.Int(r.House).Ints(r.Needs...) },
		read:  func(in *varint.In) chest.Row { return chest.Row{House: in.Int(), Needs: ints(in)} },
	}
}

func stallCoder() coder[stall.Row] {
	return coder[stall.Row]{
		write: func(o *varint.Out, r stall.Row) {
			writeInts(o, r.House, r.Till, len(r.Goods))
			for _, g := range r.Goods {
				writeInts(o, g.Thing, g.Price)
			}
		},
		read: func(in *varint.In) stall.Row {
			r := stall.Row{House: in.Int(), Till: in.Int()}
			for range in.Within(0, api.MaxRecord) {
				r.Goods = append(r.Goods, stall.Good{Thing: in.Int(), Price: in.Int()})
			}
			return r
		},
	}
}

func bidCoder() coder[bid.Auction] {
	return coder[bid.Auction]{
		write: func(o *varint.Out, a bid.Auction) {
			writeInts(o, a.ID, a.Deed, a.Seller, a.Least, a.Best, a.Bidder, a.Ends)
		},
		read: func(in *varint.In) bid.Auction {
			return bid.Auction{ID: in.Int(), Deed: in.Int(), Seller: in.Int(), Least: in.Int(), Best: in.Int(), Bidder: in.Int(), Ends: in.Int()}
		},
	}
}
