package estate

import (
	"math"
	"slices"
	"testing"

	"deedhold/access"
	"deedhold/api"
	"deedhold/bid"
	"deedhold/chest"
	"deedhold/deed"
	"deedhold/folk"
	"deedhold/rect"
	"deedhold/rent"
	"deedhold/stall"
	"deedhold/thing"
)

// world is a state, with how many orders were done on it.
type world struct {
	*State
	t *testing.T
}

func newWorld(t *testing.T, blocked ...rect.Rect) world {
	t.Helper()
	s, e := New(64, blocked)
	if e != api.OK {
		t.Fatalf("New: %d", e)
	}
	return world{s, t}
}

// ok does an order that must be done, and tells its reply.
func (w world) ok(o Order) Reply {
	w.t.Helper()
	r := w.Do(o)
	if r.E != api.OK || !w.Check() {
		w.t.Fatalf("%+v: %d, Check %t", o, r.E, w.Check())
	}
	return r
}

// n does an order that must tell a number.
func (w world) n(o Order, want int) {
	w.t.Helper()
	if r := w.ok(o); r.N != want || len(r.L) != 0 {
		w.t.Fatalf("%+v: %v, want %d", o, r, want)
	}
}

// l does an order that must tell a list.
func (w world) l(o Order, want ...int) {
	w.t.Helper()
	if r := w.ok(o); r.N != 0 || !slices.Equal(r.L, want) {
		w.t.Fatalf("%+v: %v, want %v", o, r, want)
	}
}

// no does an order that must be refused, and change nothing.
func (w world) no(e api.Errno, orders ...Order) {
	w.t.Helper()
	before := w.Parts()
	for _, o := range orders {
		if r := w.Do(o); r.E != e || r.N != 0 || len(r.L) != 0 || !w.Parts().Equal(before) {
			w.t.Errorf("%+v: %v, want %d", o, r, e)
		}
	}
}

// Accounts of the world below: the owner of the house 1, a co-owner, a friend, one who is banned, anybody, one who is poor.
const (
	ann = iota + 1
	bob
	cat
	dan
	eve
	fay
)

// settled is a world with a house {0, 0, 4, 4} of ann's, and her lists.
func settled(t *testing.T) world {
	t.Helper()
	w := newWorld(t, rect.Rect{X: 30, Y: 30, W: 2, H: 2})
	for i, name := range []string{"ann", "bob", "cat", "dan", "eve", "fay"} {
		w.n(Order{Kind: enrol, Text: name}, i+1)
		if i+1 != fay {
			w.n(Order{Kind: mint, A: i + 1, B: 1000}, 0)
		}
	}
	w.n(Order{Who: ann, Kind: claim, C: 4, D: 4}, 1)
	w.n(Order{Who: ann, Kind: list, A: 1, B: 1, C: bob, D: 1}, 0)
	w.n(Order{Who: ann, Kind: list, A: 1, B: 2, C: cat, D: 1}, 0)
	w.n(Order{Who: ann, Kind: list, A: 1, B: 3, C: dan, D: 1}, 0)
	return w
}

func (w world) gold(want ...int) {
	w.t.Helper()
	for i, n := range want {
		if got, _ := w.folk.Gold(i + 1); got != n {
			w.t.Errorf("the gold of %d: %d, want %d", i+1, got, n)
		}
	}
}

func TestNew(t *testing.T) { // P26.1
	if s, e := New(65, nil); s != nil || e != api.ErrRange {
		t.Errorf("New: %d", e)
	}
	if s, e := New(16, []rect.Rect{{X: 16, W: 1, H: 1}}); s != nil || e != api.ErrRange {
		t.Errorf("New: %d", e)
	}
	w := newWorld(t)
	if !w.Check() || w.Now() != 0 || w.Gold() != 0 || !w.Parts().Equal(Parts{NextDeed: 1, NextThing: 1, NextBid: 1}) {
		t.Errorf("%+v", w.Parts())
	}
}

func TestWhoAsks(t *testing.T) { // P26.1
	w := settled(t)
	for kind := 1; kind <= 27; kind++ {
		if crowns := kind == 1 || kind == 2 || kind == 25; crowns {
			w.no(api.ErrDenied, Order{Who: ann, Kind: kind, A: 1, B: 1, Text: "zoe"}, Order{Who: 99, Kind: kind, A: 1}, Order{Who: -1, Kind: kind, A: 1})
		} else {
			w.no(api.ErrDenied, Order{Kind: kind, A: 1, B: 1, C: 1, D: 1, Text: "a"}, Order{Who: 7, Kind: kind}, Order{Who: -1, Kind: kind}, Order{Who: math.MinInt, Kind: kind}, Order{Who: math.MaxInt, Kind: kind})
		}
	}
	for _, kind := range []int{0, -1, 28, math.MinInt, math.MaxInt} {
		w.no(api.ErrCommand, Order{Kind: kind}, Order{Who: ann, Kind: kind}, Order{Who: 99, Kind: kind})
	}
}

func TestGoldOrders(t *testing.T) { // P26.1: 1, 2, 3, 24
	w := settled(t)
	w.no(api.ErrName, Order{Kind: enrol, Text: "Zoe"}, Order{Kind: enrol})
	w.no(api.ErrTwice, Order{Kind: enrol, Text: "ann"})
	w.no(api.ErrNone, Order{Kind: mint, A: 7, B: -1}, Order{Kind: mint, A: 0, B: 1}, Order{Who: ann, Kind: give, A: 9, B: 1})
	w.no(api.ErrRange, Order{Kind: mint, A: 1, B: -1}, Order{Who: ann, Kind: give, A: 9, B: -1})
	w.no(api.ErrOverflow, Order{Kind: mint, A: 1, B: api.MaxGold})
	w.no(api.ErrFunds, Order{Who: ann, Kind: give, A: bob, B: 921})
	w.n(Order{Who: ann, Kind: give, A: bob, B: 20}, 0)
	w.gold(900, 1020, 1000, 1000, 1000, 0)
	w.n(Order{Who: bob, Kind: purse}, 1020)
	if w.Gold() != 4920 {
		t.Errorf("Gold %d", w.Gold())
	}
}

func TestClaim(t *testing.T) { // P26.1: 4, 21, 22, 23
	w := settled(t)
	w.gold(920)
	w.no(api.ErrCollide, Order{Who: fay, Kind: claim, A: 3, B: 3, C: 2, D: 2})
	w.no(api.ErrBlocked, Order{Who: fay, Kind: claim, A: 29, B: 29, C: 2, D: 2})
	w.no(api.ErrRange, Order{Who: eve, Kind: claim, A: 10, C: 17, D: 1}, Order{Who: eve, Kind: claim, A: 63, C: 2, D: 1}, Order{Who: eve, Kind: claim, A: -1, C: 2, D: 1}, Order{Who: eve, Kind: claim})
	w.no(api.ErrFunds, Order{Who: fay, Kind: claim, A: 10, C: 1, D: 1})
	w.n(Order{Who: ann, Kind: claim, A: 4, C: 2, D: 3}, 2)
	w.n(Order{Who: ann, Kind: claim, A: 6, C: 1, D: 1}, 3)
	w.gold(920 - 30 - 5)
	w.no(api.ErrLimit, Order{Who: ann, Kind: claim, A: 10, C: 16, D: 16})
	w.n(Order{Who: fay, Kind: look, A: 5, B: 2}, 2)
	w.n(Order{Who: dan, Kind: look, A: 5, B: 3}, 0)
	w.n(Order{Who: dan, Kind: look, A: -5, B: math.MaxInt}, 0)
	w.l(Order{Who: fay, Kind: near, A: 3, C: 2, D: 1}, 1, 2)
	w.l(Order{Who: fay, Kind: near, A: 3, C: 200, D: 200}, 1, 2, 3)
	w.l(Order{Who: fay, Kind: near, A: 3, C: 300, D: 1})
	w.l(Order{Who: bob, Kind: ask, A: 1}, 0, 0, 4, 4, ann, 3, 100, 0, 0, 0)
	w.l(Order{Who: dan, Kind: ask, A: 2}, 4, 0, 2, 3, ann, 1, 100, 0, 0, 0)
	w.no(api.ErrNone, Order{Who: bob, Kind: ask, A: 4}, Order{Who: bob, Kind: ask}, Order{Who: bob, Kind: ask, A: -1})
	w.ok(Order{Kind: tick, A: 7})
	w.n(Order{Who: eve, Kind: claim, A: 10, C: 16, D: 10}, 4)
	w.l(Order{Who: eve, Kind: ask, A: 4}, 10, 0, 16, 10, eve, 4, 107, 0, 0, 0)
	if r, _ := w.rents.Get(4); r.Rate != 160 {
		t.Errorf("the rate: %d", r.Rate)
	}
}

func TestDemolish(t *testing.T) { // P26.1: 5; P26.5
	w := settled(t)
	w.n(Order{Who: bob, Kind: makeThing, Text: "sword"}, 1)
	w.n(Order{Who: ann, Kind: makeThing, Text: "lamp"}, 2)
	w.n(Order{Who: ann, Kind: makeThing, Text: "pot"}, 3)
	w.n(Order{Who: ann, Kind: build, A: 1, B: 2}, 1)
	w.n(Order{Who: ann, Kind: open, A: 1}, 0)
	w.n(Order{Who: bob, Kind: store, A: 1, B: 1}, 0)
	w.n(Order{Who: ann, Kind: stock, A: 2, B: 1, C: 30}, 0)
	w.n(Order{Who: ann, Kind: stock, A: 3, B: 1, C: 40}, 0)
	w.n(Order{Who: eve, Kind: buy, A: 2}, 30)
	w.no(api.ErrNone, Order{Who: ann, Kind: demolish, A: 2})
	w.no(api.ErrDenied, Order{Who: bob, Kind: demolish, A: 1}, Order{Who: eve, Kind: demolish, A: 1})
	w.n(Order{Who: ann, Kind: auction, A: 1, B: 5, C: 5}, 1)
	w.no(api.ErrState, Order{Who: ann, Kind: demolish, A: 1})
	w.no(api.ErrDenied, Order{Who: dan, Kind: demolish, A: 1})
	w.n(Order{Kind: tick, A: 5}, 1)
	w.n(Order{Who: ann, Kind: demolish, A: 1}, 0)
	w.gold(950, 1000, 1000, 1000, 970)
	w.l(Order{Who: ann, Kind: bank}, 3)
	w.l(Order{Who: bob, Kind: bank}, 1)
	w.l(Order{Who: eve, Kind: bank}, 2)
	p := w.Parts()
	if len(p.Plots)+len(p.Houses)+len(p.Deeds)+len(p.Chests)+len(p.Stalls)+len(p.Rents) != 0 || p.Held != 0 || p.NextDeed != 2 {
		t.Errorf("%+v", p)
	}
	w.n(Order{Who: eve, Kind: claim, C: 4, D: 4}, 2)
}

func TestTransfer(t *testing.T) { // P26.1: 6; P26.5
	w := settled(t)
	w.no(api.ErrNone, Order{Who: ann, Kind: transfer, A: 2, B: bob}, Order{Who: ann, Kind: transfer, A: 1, B: 7}, Order{Who: ann, Kind: transfer, A: 1})
	w.no(api.ErrDenied, Order{Who: bob, Kind: transfer, A: 1, B: 99})
	w.no(api.ErrOwn, Order{Who: ann, Kind: transfer, A: 1, B: ann})
	for i := range 3 {
		w.n(Order{Who: eve, Kind: claim, A: 10 + i, C: 1, D: 1}, i+2)
	}
	w.no(api.ErrLimit, Order{Who: ann, Kind: transfer, A: 1, B: eve})
	w.n(Order{Who: ann, Kind: transfer, A: 1, B: bob}, 0)
	w.l(Order{Who: ann, Kind: ask, A: 1}, 0, 0, 4, 4, bob, 1, 100, 0, 0, 0)
	w.l(Order{Who: dan, Kind: ask, A: 1}, 0, 0, 4, 4, bob, 1, 100, 0, 0, 0)
	w.n(Order{Who: bob, Kind: auction, A: 1, B: 5, C: 5}, 1)
	w.no(api.ErrState, Order{Who: bob, Kind: transfer, A: 1, B: 99})
}

func TestLists(t *testing.T) { // P26.1: 7; P26.5
	w := settled(t)
	set := func(who, house, list, p, on int) Order {
		return Order{Who: who, Kind: 7, A: house, B: list, C: p, D: on}
	}
	w.no(api.ErrNone, set(ann, 2, 1, eve, 5), set(ann, 1, 1, 7, 1), set(bob, 1, 2, 0, 1), set(bob, 1, 9, 0, 1))
	w.no(api.ErrRange, set(eve, 1, 1, eve, 2), set(ann, 1, 1, eve, -1), set(ann, 1, 4, eve, 1), set(bob, 1, 0, eve, 1), set(bob, 1, -1, eve, 0))
	w.no(api.ErrDenied, set(bob, 1, 1, eve, 1), set(cat, 1, 2, eve, 1), set(eve, 1, 3, 99, 1), set(dan, 1, 3, dan, 0), set(cat, 1, 9, 99, 1))
	w.no(api.ErrOwn, set(bob, 1, 3, ann, 1), set(ann, 1, 1, ann, 0))
	w.no(api.ErrTwice, set(ann, 1, 1, bob, 1))
	w.no(api.ErrNone, set(ann, 1, 1, eve, 0))
	w.n(set(bob, 1, 2, eve, 1), 0)
	w.l(Order{Who: eve, Kind: ask, A: 1}, 0, 0, 4, 4, ann, 2, 100, 0, 0, 0)
	w.n(set(bob, 1, 3, bob, 1), 0)
	w.no(api.ErrDenied, set(bob, 1, 3, bob, 0))
	w.n(set(ann, 1, 3, bob, 0), 0)
	w.n(set(ann, 1, 1, bob, 0), 0)
	w.no(api.ErrDenied, set(bob, 1, 2, fay, 1))
}

func TestThings(t *testing.T) { // P26.1: 8, 9, 10, 11, 12, 26, 27; P26.5
	w := settled(t)
	make := func(who, want int) { w.n(Order{Who: who, Kind: 8, Text: "sword"}, want) }
	w.no(api.ErrName, Order{Who: ann, Kind: makeThing, Text: "Sword"}, Order{Who: ann, Kind: makeThing})
	make(cat, 1)
	w.no(api.ErrNone, Order{Who: cat, Kind: destroy, A: 2}, Order{Who: cat, Kind: store, A: 2, B: 1}, Order{Who: cat, Kind: take, A: 0}, Order{Who: cat, Kind: build, A: 2, B: 9})
	w.no(api.ErrDenied, Order{Who: ann, Kind: destroy, A: 1}, Order{Who: ann, Kind: store, A: 1, B: 9}, Order{Who: cat, Kind: take, A: 1}, Order{Who: bob, Kind: build, A: 1, B: 9})
	w.no(api.ErrRange, Order{Who: ann, Kind: build, A: 1, B: 1}, Order{Who: ann, Kind: build, A: 1, B: 5})
	w.n(Order{Who: ann, Kind: build, A: 1, B: 3}, 1)
	w.n(Order{Who: ann, Kind: build, A: 1, B: 2}, 2)
	w.no(api.ErrNone, Order{Who: cat, Kind: store, A: 1, B: 2, C: 1}, Order{Who: cat, Kind: store, A: 1, B: 1, C: 3}, Order{Who: cat, Kind: store, A: 1, B: 1, C: -1})
	w.no(api.ErrDenied, Order{Who: cat, Kind: store, A: 1, B: 1})
	w.n(Order{Who: cat, Kind: store, A: 1, B: 1, C: 1}, 0)
	w.no(api.ErrDenied, Order{Who: cat, Kind: destroy, A: 1}, Order{Who: cat, Kind: take, A: 1}, Order{Who: dan, Kind: take, A: 1})
	w.l(Order{Who: eve, Kind: inside, A: 1, B: 1}, 1)
	w.l(Order{Who: eve, Kind: inside, A: 1})
	w.no(api.ErrNone, Order{Who: dan, Kind: inside, A: 1, B: 3}, Order{Who: dan, Kind: inside, A: 2}, Order{Who: eve, Kind: inside, A: 1, B: -1})
	w.no(api.ErrDenied, Order{Who: dan, Kind: inside, A: 1, B: 1}, Order{Who: dan, Kind: inside, A: 1})
	w.n(Order{Who: bob, Kind: take, A: 1}, 0)
	w.l(Order{Who: bob, Kind: bank}, 1)
	w.l(Order{Who: cat, Kind: bank})
	if x, _ := w.things.Get(1); x.Owner != bob {
		t.Errorf("%v", x)
	}
	w.n(Order{Who: bob, Kind: store, A: 1, B: 1}, 0)
	w.l(Order{Who: eve, Kind: inside, A: 1}, 1)
	w.no(api.ErrDenied, Order{Who: cat, Kind: take, A: 1}, Order{Who: eve, Kind: take, A: 1})
	w.n(Order{Who: ann, Kind: take, A: 1}, 0)
	w.n(Order{Who: ann, Kind: destroy, A: 1}, 0)
	for i := range 17 {
		make(cat, i+2)
		make(bob, i+3)
		w.n(Order{Who: bob, Kind: destroy, A: i + 3}, 0)
		w.nextThing(i + 3)
	}
	for i := range 16 {
		w.n(Order{Who: cat, Kind: store, A: i + 2, B: 1, C: 2}, 0)
	}
	w.no(api.ErrMany, Order{Who: cat, Kind: store, A: 18, B: 1, C: 2})
	w.n(Order{Who: cat, Kind: store, A: 18, B: 1, C: 1}, 0)
	w.n(Order{Who: cat, Kind: take, A: 5}, 0)
	w.no(api.ErrDenied, Order{Who: cat, Kind: take, A: 5})
	for i := range 16 {
		if i != 3 {
			w.n(Order{Who: cat, Kind: take, A: i + 2}, 0)
		}
		w.n(Order{Who: cat, Kind: give, A: ann, B: 0}, 0)
	}
}

// nextThing puts the next number back, so that the numbers in the test above stay in a row.
func (w world) nextThing(next int) {
	p := w.Parts()
	p.NextThing = next
	s, ok := Restore(64, []rect.Rect{{X: 30, Y: 30, W: 2, H: 2}}, p)
	if !ok {
		w.t.Fatal("Restore")
	}
	*w.State = *s
}

func TestFullFloor(t *testing.T) { // P26.1: 11
	w := settled(t)
	for i := range 17 {
		w.n(Order{Who: bob, Kind: makeThing, Text: "a"}, i+1)
		if i < 16 {
			w.n(Order{Who: bob, Kind: store, A: i + 1, B: 1}, 0)
		}
	}
	w.no(api.ErrMany, Order{Who: bob, Kind: store, A: 17, B: 1})
}

func TestStall(t *testing.T) { // P26.1: 13, 14, 15, 16, 17; P26.5
	w := settled(t)
	w.n(Order{Who: ann, Kind: makeThing, Text: "a"}, 1)
	w.n(Order{Who: ann, Kind: makeThing, Text: "b"}, 2)
	w.n(Order{Who: cat, Kind: makeThing, Text: "c"}, 3)
	w.no(api.ErrNone, Order{Who: ann, Kind: open, A: 2}, Order{Who: ann, Kind: stock, A: 9, B: 1, C: 1}, Order{Who: ann, Kind: stock, A: 1, B: 2, C: 1}, Order{Who: ann, Kind: stock, A: 1, B: 1, C: 1}, Order{Who: ann, Kind: collect, A: 1}, Order{Who: ann, Kind: collect, A: 2}, Order{Who: ann, Kind: buy, A: 9}, Order{Who: ann, Kind: unstock, A: 9})
	w.no(api.ErrDenied, Order{Who: bob, Kind: open, A: 1}, Order{Who: cat, Kind: stock, A: 3, B: 1, C: 1}, Order{Who: ann, Kind: stock, A: 3, B: 2, C: 1}, Order{Who: bob, Kind: collect, A: 1}, Order{Who: ann, Kind: buy, A: 1}, Order{Who: ann, Kind: unstock, A: 1})
	w.n(Order{Who: ann, Kind: open, A: 1}, 0)
	w.no(api.ErrTwice, Order{Who: ann, Kind: open, A: 1})
	w.no(api.ErrRange, Order{Who: ann, Kind: stock, A: 1, B: 1}, Order{Who: ann, Kind: stock, A: 1, B: 1, C: api.MaxGold + 1})
	w.n(Order{Who: ann, Kind: stock, A: 1, B: 1, C: 30}, 0)
	w.n(Order{Who: ann, Kind: stock, A: 2, B: 1, C: 1001}, 0)
	w.l(Order{Who: ann, Kind: bank})
	w.no(api.ErrDenied, Order{Who: dan, Kind: buy, A: 1}, Order{Who: bob, Kind: unstock, A: 1}, Order{Who: ann, Kind: take, A: 1}, Order{Who: ann, Kind: stock, A: 1, B: 1, C: 5}, Order{Who: cat, Kind: buy, A: 3})
	w.no(api.ErrFunds, Order{Who: fay, Kind: buy, A: 1}, Order{Who: eve, Kind: buy, A: 2})
	w.n(Order{Who: eve, Kind: buy, A: 1}, 30)
	w.gold(920, 1000, 1000, 1000, 970)
	w.l(Order{Who: eve, Kind: bank}, 1)
	if x, _ := w.things.Get(1); x.Owner != eve || w.Parts().Held != 30 {
		t.Errorf("%v", x)
	}
	w.n(Order{Who: ann, Kind: unstock, A: 2}, 0)
	w.l(Order{Who: ann, Kind: bank}, 2)
	w.no(api.ErrDenied, Order{Who: bob, Kind: collect, A: 1})
	w.n(Order{Who: ann, Kind: collect, A: 1}, 30)
	w.n(Order{Who: ann, Kind: collect, A: 1}, 0)
	w.gold(950, 1000, 1000, 1000, 970)
	for i := range 17 {
		w.n(Order{Who: ann, Kind: makeThing, Text: "d"}, i+4)
		if i < 16 {
			w.n(Order{Who: ann, Kind: stock, A: i + 4, B: 1, C: 1}, 0)
		}
	}
	w.no(api.ErrMany, Order{Who: ann, Kind: stock, A: 20, B: 1, C: 1})
}

func TestUnstockGoesToItsOwner(t *testing.T) { // P26.1: 15
	w := settled(t)
	w.n(Order{Who: ann, Kind: open, A: 1}, 0)
	w.n(Order{Who: ann, Kind: makeThing, Text: "a"}, 1)
	w.n(Order{Who: ann, Kind: stock, A: 1, B: 1, C: 1}, 0)
	w.n(Order{Who: ann, Kind: transfer, A: 1, B: eve}, 0)
	w.no(api.ErrDenied, Order{Who: ann, Kind: unstock, A: 1})
	w.n(Order{Who: eve, Kind: unstock, A: 1}, 0)
	w.l(Order{Who: ann, Kind: bank}, 1)
}

func TestRent(t *testing.T) { // P26.1: 18
	w := settled(t)
	pay := func(who, house, n int) Order { return Order{Who: who, Kind: 18, A: house, B: n} }
	w.no(api.ErrNone, pay(ann, 2, 1))
	w.no(api.ErrDenied, pay(dan, 1, 99))
	w.no(api.ErrRange, pay(ann, 1, 0), pay(ann, 1, 13), pay(fay, 1, -1))
	w.no(api.ErrLimit, pay(fay, 1, 12))
	w.no(api.ErrFunds, pay(fay, 1, 11))
	w.n(pay(eve, 1, 11), 176)
	w.gold(920, 1000, 1000, 1000, 1000-176)
	w.l(Order{Who: ann, Kind: ask, A: 1}, 0, 0, 4, 4, ann, 4, 1200, 0, 0, 0)
	w.no(api.ErrLimit, pay(ann, 1, 1))
	w.ok(Order{Kind: tick, A: 1221})
	w.l(Order{Who: ann, Kind: ask, A: 1}, 0, 0, 4, 4, ann, 4, 1200, 3, 0, 0)
	w.n(pay(ann, 1, 12), 192)
	if w.Gold() != 5000-80-176-192 {
		t.Errorf("Gold %d", w.Gold())
	}
}

func TestAuction(t *testing.T) { // P26.1: 19, 20, 25
	w := settled(t)
	w.no(api.ErrNone, Order{Who: ann, Kind: auction, A: 2, C: 1}, Order{Who: bob, Kind: bidOn, A: 1, B: 5})
	w.no(api.ErrDenied, Order{Who: bob, Kind: auction, A: 1})
	w.no(api.ErrRange, Order{Who: ann, Kind: auction, A: 1, B: -1}, Order{Who: ann, Kind: auction, A: 1, B: 5, C: 1001}, Order{Who: ann, Kind: auction, A: 1, B: -1, C: 1}, Order{Who: ann, Kind: auction, A: 1, B: api.MaxGold + 1, C: 1})
	w.n(Order{Kind: tick, A: 10}, 0)
	w.n(Order{Who: ann, Kind: auction, A: 1, B: 100, C: 20}, 1)
	w.no(api.ErrTwice, Order{Who: ann, Kind: auction, A: 1, B: 5, C: 5})
	w.no(api.ErrOwn, Order{Who: ann, Kind: bidOn, A: 1, B: -1})
	w.no(api.ErrRange, Order{Who: bob, Kind: bidOn, A: 1, B: -1})
	w.no(api.ErrLow, Order{Who: fay, Kind: bidOn, A: 1, B: 99})
	w.no(api.ErrFunds, Order{Who: fay, Kind: bidOn, A: 1, B: 100})
	w.n(Order{Who: dan, Kind: bidOn, A: 1, B: 100}, 0)
	w.no(api.ErrLow, Order{Who: eve, Kind: bidOn, A: 1, B: 104})
	w.n(Order{Who: eve, Kind: bidOn, A: 1, B: 105}, dan)
	w.gold(920, 1000, 1000, 1000, 895)
	w.no(api.ErrFunds, Order{Who: eve, Kind: bidOn, A: 1, B: 896}) // its own bid isn't given back ahead of that
	w.n(Order{Who: eve, Kind: bidOn, A: 1, B: 800}, eve)
	w.gold(920, 1000, 1000, 1000, 200)
	w.l(Order{Who: ann, Kind: ask, A: 1}, 0, 0, 4, 4, ann, 4, 100, 0, 0, 1)
	w.n(Order{Kind: tick, A: 19}, 0)
	w.n(Order{Kind: tick, A: 1}, 1)
	w.gold(1720, 1000, 1000, 1000, 200)
	w.l(Order{Who: bob, Kind: ask, A: 1}, 0, 0, 4, 4, eve, 1, 100, 0, 0, 0)
}

func TestAuctionOfNobody(t *testing.T) { // P26.1: 25
	w := settled(t)
	w.n(Order{Who: ann, Kind: auction, A: 1, B: 100, C: 20}, 1)
	w.n(Order{Kind: tick, A: 50}, 1)
	w.l(Order{Who: bob, Kind: ask, A: 1}, 0, 0, 4, 4, ann, 3, 100, 0, 0, 0)
	w.n(Order{Who: ann, Kind: auction, A: 1, B: 0, C: 1000}, 2)
	w.n(Order{Who: fay, Kind: bidOn, A: 2, B: 0}, 0)
	w.n(Order{Who: eve, Kind: bidOn, A: 2, B: 1}, fay)
}

func TestWinnerHoldsTooMany(t *testing.T) { // P26.1: 25
	w := settled(t)
	w.n(Order{Who: ann, Kind: auction, A: 1, B: 100, C: 20}, 1)
	w.n(Order{Who: eve, Kind: bidOn, A: 1, B: 100}, 0)
	for i := range 3 {
		w.n(Order{Who: eve, Kind: claim, A: 10 + i, C: 1, D: 1}, i+2)
	}
	w.n(Order{Kind: tick, A: 20}, 1)
	w.gold(920, 1000, 1000, 1000, 1000-15)
	w.l(Order{Who: bob, Kind: ask, A: 1}, 0, 0, 4, 4, ann, 3, 100, 0, 0, 0)
}

func TestSettledInOrder(t *testing.T) { // P26.1: 25: the earlier first, then the lesser number
	w := settled(t)
	for i := range 3 {
		w.n(Order{Who: bob, Kind: claim, A: 10 + i, C: 1, D: 1}, i+2)
	}
	w.n(Order{Who: eve, Kind: claim, A: 20, C: 1, D: 1}, 5)
	w.n(Order{Who: eve, Kind: claim, A: 21, C: 1, D: 1}, 6)
	w.n(Order{Who: bob, Kind: auction, A: 2, B: 1, C: 9}, 1)
	w.n(Order{Who: bob, Kind: auction, A: 3, B: 1, C: 5}, 2)
	w.n(Order{Who: bob, Kind: auction, A: 4, B: 1, C: 5}, 3)
	for i := range 3 {
		w.n(Order{Who: eve, Kind: bidOn, A: i + 1, B: 10}, 0)
	}
	w.n(Order{Kind: tick, A: 9}, 3)
	for house, owner := range map[int]int{2: bob, 3: eve, 4: bob} {
		if w.houses[house].Owner != owner {
			t.Errorf("the house %d is %d's", house, w.houses[house].Owner)
		}
	}
}

func TestForeclosed(t *testing.T) { // P26.4
	w := settled(t)
	w.n(Order{Who: bob, Kind: makeThing, Text: "a"}, 1)
	w.n(Order{Who: ann, Kind: makeThing, Text: "b"}, 2)
	w.n(Order{Who: cat, Kind: makeThing, Text: "c"}, 3)
	w.n(Order{Who: ann, Kind: makeThing, Text: "d"}, 4)
	w.n(Order{Who: ann, Kind: build, A: 1, B: 2}, 1)
	w.n(Order{Who: bob, Kind: store, A: 1, B: 1}, 0)
	w.n(Order{Who: cat, Kind: store, A: 3, B: 1, C: 1}, 0)
	w.n(Order{Who: ann, Kind: open, A: 1}, 0)
	w.n(Order{Who: ann, Kind: stock, A: 2, B: 1, C: 7}, 0)
	w.n(Order{Who: ann, Kind: stock, A: 4, B: 1, C: 8}, 0)
	w.n(Order{Who: eve, Kind: buy, A: 2}, 7)
	w.n(Order{Who: ann, Kind: auction, A: 1, B: 5, C: 1000}, 1)
	w.n(Order{Who: dan, Kind: bidOn, A: 1, B: 50}, 0)
	w.n(Order{Kind: tick, A: 140}, 0)
	w.l(Order{Who: ann, Kind: ask, A: 1}, 0, 0, 4, 4, ann, 4, 100, 4, 1, 1)
	w.n(Order{Kind: tick, A: 1}, 1)
	w.gold(927, 1000, 1000, 1000, 993)
	for who, want := range map[int][]int{ann: {4}, bob: {1}, cat: {3}, eve: {2}} {
		w.l(Order{Who: who, Kind: bank}, want...)
	}
	p := w.Parts()
	if len(p.Plots)+len(p.Deeds)+len(p.Chests)+len(p.Stalls)+len(p.Rents)+len(p.Auctions) != 0 || p.Held != 0 {
		t.Errorf("%+v", p)
	}
	w.no(api.ErrNone, Order{Who: ann, Kind: ask, A: 1})
}

func TestWonAndLostAtOnce(t *testing.T) { // P26.1: 25: first the auctions, then the rents
	w := settled(t)
	w.n(Order{Who: ann, Kind: open, A: 1}, 0)
	w.n(Order{Who: ann, Kind: makeThing, Text: "a"}, 1)
	w.n(Order{Who: ann, Kind: stock, A: 1, B: 1, C: 7}, 0)
	w.n(Order{Who: bob, Kind: buy, A: 1}, 7)
	w.n(Order{Who: ann, Kind: auction, A: 1, B: 5, C: 20}, 1)
	w.n(Order{Who: eve, Kind: bidOn, A: 1, B: 50}, 0)
	w.n(Order{Kind: tick, A: 141}, 2)
	w.gold(970, 993, 1000, 1000, 957)
}

func TestTick(t *testing.T) { // P26.1: 25
	w := settled(t)
	w.no(api.ErrRange, Order{Kind: tick}, Order{Kind: tick, A: -1}, Order{Kind: tick, A: api.MaxTick + 1}, Order{Kind: tick, A: math.MaxInt}, Order{Kind: tick, A: math.MinInt})
	w.n(Order{Kind: tick, A: 1}, 0)
	w.no(api.ErrRange, Order{Kind: tick, A: api.MaxTick})
	w.n(Order{Kind: tick, A: api.MaxTick - 1}, 1)
	if w.Now() != api.MaxTick {
		t.Errorf("Now %d", w.Now())
	}
	w.no(api.ErrRange, Order{Kind: tick, A: 1})
	w.n(Order{Who: eve, Kind: claim, C: 1, D: 1}, 2)
	w.n(Order{Who: eve, Kind: auction, A: 2, C: 1000}, 1)
}

func TestTillNeverTooFull(t *testing.T) { // P26.1: 16
	w := settled(t)
	w.n(Order{Kind: mint, A: eve, B: api.MaxGold - w.Gold()}, 0)
	w.n(Order{Who: ann, Kind: open, A: 1}, 0)
	w.n(Order{Who: ann, Kind: makeThing, Text: "a"}, 1)
	gold, _ := w.folk.Gold(eve)
	w.n(Order{Who: ann, Kind: stock, A: 1, B: 1, C: gold}, 0)
	w.n(Order{Who: eve, Kind: buy, A: 1}, gold)
	w.n(Order{Who: ann, Kind: collect, A: 1}, gold)
}

func TestLastNumbers(t *testing.T) { // P26.3: what follows can still be restored
	w := settled(t)
	p := w.Parts()
	p.NextDeed, p.NextThing, p.NextBid = 1<<40, 1<<40, 1<<40
	s, ok := Restore(64, nil, p)
	if !ok {
		t.Fatal("Restore")
	}
	w.State = s
	w.no(api.ErrMany, Order{Who: eve, Kind: claim, A: 10, C: 1, D: 1}, Order{Who: eve, Kind: makeThing, Text: "a"}, Order{Who: ann, Kind: auction, A: 1, C: 1})
	w.no(api.ErrFunds, Order{Who: fay, Kind: claim, A: 10, C: 1, D: 1})
	w.no(api.ErrName, Order{Who: eve, Kind: makeThing, Text: "A"})
	w.no(api.ErrRange, Order{Who: ann, Kind: auction, A: 1})
	w.n(Order{Kind: tick, A: 1}, 0)
	p.NextDeed, p.NextThing, p.NextBid = 1<<40-1, 1<<40-1, 1<<40-1
	if w.State, ok = Restore(64, nil, p); !ok {
		t.Fatal("Restore")
	}
	w.n(Order{Who: eve, Kind: claim, A: 10, C: 1, D: 1}, 1<<40-1)
	w.n(Order{Who: eve, Kind: makeThing, Text: "a"}, 1<<40-1)
	w.n(Order{Who: ann, Kind: auction, A: 1, C: 1}, 1<<40-1)
}

func TestCheckAndRestore(t *testing.T) { // P26.2
	w := settled(t)
	w.n(Order{Who: ann, Kind: makeThing, Text: "a"}, 1)
	w.n(Order{Who: ann, Kind: makeThing, Text: "b"}, 2)
	w.n(Order{Who: ann, Kind: makeThing, Text: "c"}, 3)
	w.n(Order{Who: ann, Kind: makeThing, Text: "d"}, 4)
	w.n(Order{Who: ann, Kind: open, A: 1}, 0)
	w.n(Order{Who: ann, Kind: build, A: 1, B: 2}, 1)
	w.n(Order{Who: ann, Kind: stock, A: 1, B: 1, C: 10}, 0)
	w.n(Order{Who: ann, Kind: stock, A: 2, B: 1, C: 10}, 0)
	w.n(Order{Who: ann, Kind: store, A: 3, B: 1}, 0)
	w.n(Order{Who: eve, Kind: buy, A: 1}, 10)
	w.n(Order{Who: eve, Kind: claim, A: 10, C: 1, D: 1}, 2)
	w.n(Order{Who: ann, Kind: auction, A: 1, B: 5, C: 50}, 1)
	w.n(Order{Who: eve, Kind: bidOn, A: 1, B: 6}, 0)
	w.n(Order{Kind: tick, A: 5}, 0)
	good := w.Parts()
	blocked := []rect.Rect{{X: 30, Y: 30, W: 2, H: 2}}
	s, ok := Restore(64, blocked, good)
	if !ok || !s.Check() || !s.Parts().Equal(good) || !good.Equal(s.Parts()) || s.Now() != 5 {
		t.Fatal("Restore of parts")
	}
	if _, ok := Restore(65, blocked, good); ok {
		t.Error("Restore on no land")
	}
	if _, ok := Restore(64, []rect.Rect{{W: 1, H: 1}}, good); ok {
		t.Error("Restore on a blocked tile")
	}
	if _, ok := Restore(64, []rect.Rect{{}}, good); ok {
		t.Error("Restore with a wrong rectangle")
	}
	for name, change := range map[string]func(p *Parts){
		"a clock below 0":             func(p *Parts) { p.Now = -1 },
		"a clock too late":            func(p *Parts) { p.Now = api.MaxTick + 1 },
		"an account less":             func(p *Parts) { p.Folk = p.Folk[:4] },
		"a wrong name":                func(p *Parts) { p.Folk[5].Name = "Fay" },
		"held more":                   func(p *Parts) { p.Held++ },
		"held less":                   func(p *Parts) { p.Held-- },
		"a plot less":                 func(p *Parts) { p.Plots = p.Plots[:1] },
		"a plot of another number":    func(p *Parts) { p.Plots[1].ID = 3 },
		"plots that fall":             func(p *Parts) { slices.Reverse(p.Plots) },
		"plots that meet":             func(p *Parts) { p.Plots[1].Rect.X = 3 },
		"a plot on a blocked tile":    func(p *Parts) { p.Plots[1].Rect.X, p.Plots[1].Rect.Y = 30, 31 },
		"a plot that leads out":       func(p *Parts) { p.Plots[1].Rect.X = 64 },
		"a plot more":                 func(p *Parts) { p.Plots = append(p.Plots, Plot{3, rect.Rect{X: 20, W: 1, H: 1}}) },
		"a house less":                func(p *Parts) { p.Houses = p.Houses[:1] },
		"a house more":                func(p *Parts) { p.Houses = append(p.Houses, access.New(1)) },
		"another owner":               func(p *Parts) { p.Houses[1].Owner = bob },
		"houses in another order":     func(p *Parts) { slices.Reverse(p.Houses) },
		"a list that falls":           func(p *Parts) { p.Houses[1].Co = []int{3, 2} },
		"a list with no account":      func(p *Parts) { p.Houses[1].Bans = []int{7} },
		"a friend that is no account": func(p *Parts) { p.Houses[1].Friends = []int{2, 7} },
		"a co-owner that is none":     func(p *Parts) { p.Houses[0].Co = []int{9} },
		"a list with the owner":       func(p *Parts) { p.Houses[1].Friends = []int{eve} },
		"a deed less":                 func(p *Parts) { p.Deeds, p.Houses = p.Deeds[:1], p.Houses[:1] },
		"a deed of another plot":      func(p *Parts) { p.Deeds[1].Plot = 5 },
		"deeds of each other's plots": func(p *Parts) { p.Deeds[0].Plot, p.Deeds[1].Plot = 2, 1 },
		"another holder":              func(p *Parts) { p.Deeds[1].Holder = bob },
		"a holder that is no account": func(p *Parts) { p.Deeds[1].Holder, p.Houses[1].Owner = 9, 9 },
		"a next deed too small":       func(p *Parts) { p.NextDeed = 2 },
		"a thing's owner no account":  func(p *Parts) { p.Things[3].Owner = 7 },
		"a bank of no account":        func(p *Parts) { p.Things[3].Place.House = 7 },
		"a chest that is not there":   func(p *Parts) { p.Things[3].Place = thing.Place{Kind: 2, House: 1, Slot: 2} },
		"a chest of no house":         func(p *Parts) { p.Things[3].Place = thing.Place{Kind: 2, House: 9, Slot: 1} },
		"a floor of no house":         func(p *Parts) { p.Things[2].Place.House = 3 },
		"a thing in a stall, no good": func(p *Parts) { p.Things[3].Place = thing.Place{Kind: 4, House: 1} },
		"a good elsewhere":            func(p *Parts) { p.Things[1].Place = thing.Place{Kind: 1, House: 1} },
		"a good in another stall":     func(p *Parts) { p.Things[1].Place.House = 2 },
		"a good that is not there":    func(p *Parts) { p.Stalls[0].Goods = append(p.Stalls[0].Goods, stall.Good{Thing: 9, Price: 1}) },
		"a good of another stall": func(p *Parts) {
			p.Stalls = append(p.Stalls, stall.Row{House: 2, Goods: p.Stalls[0].Goods})
			p.Stalls[0].Goods = nil
		},
		"a good less":                 func(p *Parts) { p.Stalls[0].Goods = nil },
		"a next thing too small":      func(p *Parts) { p.NextThing = 4 },
		"chests of no house":          func(p *Parts) { p.Chests[0].House = 3 },
		"a wrong chest":               func(p *Parts) { p.Chests[0].Needs[0] = 1 },
		"a stall of no house":         func(p *Parts) { p.Stalls = append(p.Stalls, stall.Row{House: 3}) },
		"a till with more":            func(p *Parts) { p.Stalls[0].Till++ },
		"a rent less":                 func(p *Parts) { p.Rents = p.Rents[:1] },
		"a rent more":                 func(p *Parts) { p.Rents = append(p.Rents, rent.Row{House: 3, Rate: 1}) },
		"a rent of another house":     func(p *Parts) { p.Rents[1].House = 3 },
		"a wrong rate":                func(p *Parts) { p.Rents[1].Rate = 0 },
		"an auction of no deed":       func(p *Parts) { p.Auctions[0].Deed = 3 },
		"an auction by another one":   func(p *Parts) { p.Auctions[0].Seller = bob },
		"a bidder that is no account": func(p *Parts) { p.Auctions[0].Bidder = 7 },
		"a bid with more":             func(p *Parts) { p.Auctions[0].Best++ },
		"a next auction too small":    func(p *Parts) { p.NextBid = 1 },
		"too many on a floor":         func(p *Parts) { many(p, thing.Place{Kind: 3, House: 1}, 16) },
		"too many in a chest":         func(p *Parts) { many(p, thing.Place{Kind: 2, House: 1, Slot: 1}, 17) },
		"a deed, a house, but no plot.": func(p *Parts) {
			p.Deeds, p.Houses = append(p.Deeds, deed.Deed{ID: 3, Plot: 3, Holder: 1}), append(p.Houses, access.New(1))
		},
	} {
		p := w.Parts()
		p.NextDeed, p.NextThing = 9, 99
		if _, ok := Restore(64, blocked, p); !ok {
			t.Fatal("Restore ahead of the change")
		}
		change(&p)
		if s, ok := Restore(64, blocked, p); ok || s != nil {
			t.Errorf("%s: Restore", name)
		}
		if p.Equal(good) || good.Equal(p) {
			t.Errorf("%s: Equal", name)
		}
	}
	p := w.Parts()
	p.NextThing = 99
	many(&p, thing.Place{Kind: 3, House: 1}, 15)
	many(&p, thing.Place{Kind: 2, House: 1, Slot: 1}, 16)
	if _, ok := Restore(64, blocked, p); !ok {
		t.Error("as many as there may be")
	}
}

func many(p *Parts, at thing.Place, n int) {
	for range n {
		p.Things = append(p.Things, thing.Thing{ID: p.Things[len(p.Things)-1].ID + 1, Name: "x", Owner: 1, Place: at})
	}
}

func TestCheckSees(t *testing.T) { // P26.2: Check of a state that is wrong inside
	for name, change := range map[string]func(s *State){
		"a house more":   func(s *State) { s.houses[9] = access.New(1) },
		"a house less":   func(s *State) { delete(s.houses, 1) },
		"a plot less":    func(s *State) { s.land.Free(1) },
		"a deed less":    func(s *State) { s.deeds.Void(1) },
		"a rent less":    func(s *State) { s.rents.Drop(1) },
		"held":           func(s *State) { s.folk.Hold(ann, 1) },
		"another holder": func(s *State) { s.deeds.Move(1, bob) },
		"a clock":        func(s *State) { s.now = -1 },
		"an auction":     func(s *State) { s.bids.Open(1, bob, 1, 1) },
		"a chest":        func(s *State) { s.chests.Build(2, 2) },
		"a thing":        func(s *State) { s.things.Make("a", 99) },
	} {
		w := settled(t)
		change(w.State)
		if w.Check() {
			t.Errorf("%s: Check", name)
		}
	}
}

func TestEqual(t *testing.T) { // P26.2
	if !(Reply{L: []int{}}).Equal(Reply{}) || (Reply{N: 1}).Equal(Reply{}) || (Reply{E: 1}).Equal(Reply{}) || (Reply{L: []int{1}}).Equal(Reply{L: []int{2}}) || !(Reply{1, 2, []int{3}}).Equal(Reply{1, 2, []int{3}}) {
		t.Error("replies")
	}
	if !(Parts{Things: []thing.Thing{}, Auctions: []bid.Auction{}}).Equal(Parts{}) || (Parts{Now: 1}).Equal(Parts{Held: 1}) {
		t.Error("parts")
	}
	full := func() Parts {
		return Parts{1, []folk.Row{{Name: "a", Gold: 1}}, 2, []Plot{{1, rect.Rect{X: 1}}}, []access.House{{Owner: 1, Co: []int{1}}}, []deed.Deed{{ID: 1}}, 3, []thing.Thing{{ID: 1}}, 4,
			[]chest.Row{{House: 1, Needs: []int{2}}}, []stall.Row{{House: 1, Till: 1, Goods: []stall.Good{{Thing: 1, Price: 1}}}}, []rent.Row{{House: 1}}, []bid.Auction{{ID: 1}}, 5}
	}
	for i, change := range []func(p *Parts){func(p *Parts) { p.Now++ }, func(p *Parts) { p.Held++ }, func(p *Parts) { p.NextDeed++ }, func(p *Parts) { p.NextThing++ }, func(p *Parts) { p.NextBid++ },
		func(p *Parts) { p.Folk[0].Gold++ }, func(p *Parts) { p.Folk = nil }, func(p *Parts) { p.Plots[0].Rect.X++ }, func(p *Parts) { p.Houses[0].Co[0]++ }, func(p *Parts) { p.Houses[0].Bans = []int{1} },
		func(p *Parts) { p.Deeds[0].Holder++ }, func(p *Parts) { p.Things[0].Place.Slot++ }, func(p *Parts) { p.Chests[0].House++ }, func(p *Parts) { p.Chests[0].Needs[0]++ }, func(p *Parts) { p.Chests = nil },
		func(p *Parts) { p.Stalls[0].House++ }, func(p *Parts) { p.Stalls[0].Till++ }, func(p *Parts) { p.Stalls[0].Goods[0].Price++ }, func(p *Parts) { p.Stalls[0].Goods = nil }, func(p *Parts) { p.Rents[0].Due++ }, func(p *Parts) { p.Auctions[0].Ends++ }} {
		p := full()
		change(&p)
		if p.Equal(full()) || full().Equal(p) || !full().Equal(full()) {
			t.Errorf("the change %d", i)
		}
	}
}

func TestParts(t *testing.T) { // P26.2
	w := settled(t)
	w.n(Order{Who: ann, Kind: build, A: 1, B: 3}, 1)
	w.n(Order{Who: ann, Kind: open, A: 1}, 0)
	w.n(Order{Who: ann, Kind: makeThing, Text: "a"}, 1)
	w.n(Order{Who: ann, Kind: stock, A: 1, B: 1, C: 7}, 0)
	w.n(Order{Who: ann, Kind: auction, A: 1, B: 5, C: 9}, 1)
	w.n(Order{Who: eve, Kind: bidOn, A: 1, B: 6}, 0)
	w.n(Order{Kind: tick, A: 3}, 0)
	want := Parts{
		Now:       3,
		Folk:      []folk.Row{{Name: "ann", Gold: 920}, {Name: "bob", Gold: 1000}, {Name: "cat", Gold: 1000}, {Name: "dan", Gold: 1000}, {Name: "eve", Gold: 994}, {Name: "fay", Gold: 0}},
		Held:      6,
		Plots:     []Plot{{1, rect.Rect{W: 4, H: 4}}},
		Houses:    []access.House{{Owner: ann, Co: []int{bob}, Friends: []int{cat}, Bans: []int{dan}}},
		Deeds:     []deed.Deed{{ID: 1, Plot: 1, Holder: ann}},
		NextDeed:  2,
		Things:    []thing.Thing{{ID: 1, Name: "a", Owner: ann, Place: thing.Place{Kind: 4, House: 1}}},
		NextThing: 2,
		Chests:    []chest.Row{{House: 1, Needs: []int{3}}},
		Stalls:    []stall.Row{{House: 1, Goods: []stall.Good{{Thing: 1, Price: 7}}}},
		Rents:     []rent.Row{{House: 1, Rate: 16, Due: 100}},
		Auctions:  []bid.Auction{{ID: 1, Deed: 1, Seller: ann, Least: 5, Best: 6, Bidder: eve, Ends: 9}},
		NextBid:   2,
	}
	s, ok := Restore(64, nil, want)
	if !w.Parts().Equal(want) || !ok || !s.Parts().Equal(want) {
		t.Errorf("%+v", w.Parts())
	}
}

func TestMemory(t *testing.T) { // P26.1, P26.2
	w := settled(t)
	before := w.Parts()
	p := w.Parts()
	s, _ := Restore(64, nil, p)
	p.Houses[0].Co[0], p.Folk[0].Name, p.Deeds[0] = 99, "zoe", deed.Deed{}
	for _, l := range [][]int{w.Do(Order{Who: ann, Kind: ask, A: 1}).L, w.Do(Order{Who: ann, Kind: near, C: 9, D: 9}).L} {
		clear(l[:cap(l)])
	}
	if !s.Parts().Equal(before) || !w.Parts().Equal(before) {
		t.Error("what is told or handed in is kept")
	}
	c := w.Copy()
	for _, o := range []Order{{Kind: enrol, Text: "zoe"}, {Kind: tick, A: 1}, {Who: ann, Kind: list, A: 1, B: 1, C: bob}, {Who: ann, Kind: build, A: 1, B: 2}, {Who: ann, Kind: open, A: 1}, {Who: ann, Kind: makeThing, Text: "a"},
		{Who: ann, Kind: auction, A: 1, C: 9}, {Who: bob, Kind: bidOn, A: 1, B: 9}, {Who: eve, Kind: claim, A: 9, C: 1, D: 1}, {Kind: tick, A: 500}} {
		if r := c.Do(o); r.E != api.OK {
			t.Fatalf("%v: %d", o, r.E)
		}
	}
	if !w.Parts().Equal(before) || c.Parts().Equal(before) || !c.Check() {
		t.Error("a copy shares with the first one")
	}
}
