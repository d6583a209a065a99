package bid

import (
	"math"
	"slices"
	"testing"

	"deedhold/api"
)

const most = api.MaxGold

func is(t *testing.T, what string, e, want api.Errno) {
	t.Helper()
	if e != want {
		t.Errorf("%s: %d, want %d", what, e, want)
	}
}

func check(t *testing.T, b *Bids, next int, want ...Auction) {
	t.Helper()
	held := 0
	for _, a := range want {
		held += a.Best
		got, e := b.Get(a.ID)
		of, ok := b.Of(a.Deed)
		if got != a || e != api.OK || of != a || !ok {
			t.Errorf("Get %v, Of %v; want %v", got, of, a)
		}
	}
	if !slices.Equal(b.Rows(), want) || b.Len() != len(want) || b.Next() != next || b.Held() != held {
		t.Errorf("Rows %v, Len %d, Next %d, Held %d; want %v, %d, %d", b.Rows(), b.Len(), b.Next(), b.Held(), want, next, held)
	}
	if r, ok := Restore(want, next); !ok || !slices.Equal(r.Rows(), want) || r.Next() != next {
		t.Error("Restore")
	}
}

func TestOpen(t *testing.T) { // P25.1
	b := New()
	check(t, b, 1)
	id, e := b.Open(5, 1, 100, 50)
	is(t, "Open", e, api.OK)
	if id != 1 {
		t.Errorf("Open: %d", id)
	}
	for name, c := range map[string]struct {
		deed, seller, least, ends int
		e                         api.Errno
	}{
		"a deed 0": {0, 1, -1, 0, api.ErrForm}, "a seller 0": {1, 0, -1, 0, api.ErrForm}, "below 0": {math.MinInt, math.MinInt, 0, 0, api.ErrForm}, "no amount": {5, 1, -1, 0, api.ErrRange},
		"too great an amount": {5, 1, most + 1, 0, api.ErrRange}, "an end below 0": {5, 1, 0, -1, api.ErrRange}, "an end too late": {5, 1, 0, 1<<42 + 1, api.ErrRange}, "twice": {5, 2, 0, 0, api.ErrTwice},
	} {
		id, e := b.Open(c.deed, c.seller, c.least, c.ends)
		is(t, name, e, c.e)
		if id != 0 {
			t.Error("a number beside an error")
		}
	}
	b.Open(math.MaxInt, 1, most, 1<<42)
	b.Open(6, 1, 0, 0)
	check(t, b, 4, Auction{1, 5, 1, 100, 0, 0, 50}, Auction{2, math.MaxInt, 1, most, 0, 0, 1 << 42}, Auction{3, 6, 1, 0, 0, 0, 0})
	if a, e := b.Close(1); a != (Auction{1, 5, 1, 100, 0, 0, 50}) || e != api.OK {
		t.Errorf("Close: %v, %d", a, e)
	}
	for _, id := range []int{1, 0, -1, 4, math.MinInt, math.MaxInt} {
		a, e := b.Get(id)
		c, f := b.Close(id)
		d, g := b.Bid(id, 0, -1)
		if a != (Auction{}) || c != a || d != a {
			t.Error("an auction beside an error")
		}
		for _, e := range []api.Errno{e, f, g} {
			is(t, "no auction", e, api.ErrNone)
		}
	}
	if a, ok := b.Of(5); ok || a != (Auction{}) {
		t.Error("Of a deed that is auctioned no more")
	}
	if id, e := b.Open(5, 1, 1, 1); id != 4 || e != api.OK {
		t.Errorf("Open: %d, %d", id, e)
	}
}

func TestMany(t *testing.T) { // P25.1
	b := New()
	for i := range 64 {
		if id, e := b.Open(i+1, 1, 1, 1); id != i+1 || e != api.OK {
			t.Fatalf("Open: %d", e)
		}
	}
	_, e := b.Open(65, 1, 1, 1)
	is(t, "Open", e, api.ErrMany)
	_, e = b.Open(64, 1, 1, 1)
	is(t, "Open", e, api.ErrTwice)
	b.Close(3)
	_, e = b.Open(65, 1, 1, 1)
	is(t, "Open", e, api.OK)
}

func TestBid(t *testing.T) { // P25.2
	b := New()
	b.Open(5, 1, 100, 50)
	first := Auction{1, 5, 1, 100, 0, 0, 50}
	for _, c := range []struct {
		who, n int
		a      Auction
		e      api.Errno
	}{
		{2, 99, Auction{}, api.ErrLow}, {0, 100, Auction{}, api.ErrForm}, {math.MinInt, -1, Auction{}, api.ErrForm}, {1, -1, Auction{}, api.ErrOwn}, {2, -1, Auction{}, api.ErrRange}, {2, most + 1, Auction{}, api.ErrRange},
		{2, 100, first, api.OK}, {3, 104, Auction{}, api.ErrLow}, {1, 105, Auction{}, api.ErrOwn}, {3, 105, Auction{1, 5, 1, 100, 100, 2, 50}, api.OK}, {3, 109, Auction{}, api.ErrLow},
		{3, 110, Auction{1, 5, 1, 100, 105, 3, 50}, api.OK}, {2, most, Auction{1, 5, 1, 100, 110, 3, 50}, api.OK}, {3, most, Auction{}, api.ErrLow},
	} {
		a, e := b.Bid(1, c.who, c.n)
		if a != c.a || e != c.e {
			t.Errorf("Bid(1, %d, %d): %v, %d; want %v, %d", c.who, c.n, a, e, c.a, c.e)
		}
	}
	check(t, b, 2, Auction{1, 5, 1, 100, most, 2, 50})
}

func TestBidOfNothing(t *testing.T) { // P25.2: a best bid of 0 is one
	b := New()
	b.Open(5, 1, 0, 50)
	_, e := b.Bid(1, 2, 0)
	is(t, "Bid", e, api.OK)
	_, e = b.Bid(1, 3, 0)
	is(t, "Bid", e, api.ErrLow)
	check(t, b, 2, Auction{1, 5, 1, 0, 0, 2, 50})
	_, e = b.Bid(1, 3, 1)
	is(t, "Bid", e, api.OK)
}

func TestEnded(t *testing.T) { // P25.3
	l := []Auction{{1, 1, 1, 0, 0, 0, 30}, {2, 2, 1, 5, 7, 2, 10}, {4, 4, 1, 0, 0, 0, 20}, {5, 5, 1, 0, 0, 0, 10}, {9, 9, 1, 0, 0, 0, 0}}
	for now, want := range map[int][]int{-1: nil, math.MinInt: nil, 0: {9}, 9: {9}, 10: {9, 2, 5}, 29: {9, 2, 5, 4}, 30: {9, 2, 5, 4, 1}, math.MaxInt: {9, 2, 5, 4, 1}} {
		b, _ := Restore(l, 10)
		var got []int
		for a := range b.Ended(now) {
			if got = append(got, a.ID); !slices.Contains(l, a) {
				t.Errorf("Ended: %v", a)
			}
		}
		if !slices.Equal(got, want) {
			t.Errorf("Ended(%d): %v", now, got)
		}
		check(t, b, 10, slices.DeleteFunc(slices.Clone(l), func(a Auction) bool { return slices.Contains(want, a.ID) })...)
	}
	b, _ := Restore(l, 10)
	for a := range b.Ended(99) {
		if a.ID == 2 {
			break
		}
	}
	check(t, b, 10, l[0], l[2], l[3])
}

func TestRestore(t *testing.T) { // P25.3
	many := []Auction{}
	for i := range 65 {
		many = append(many, Auction{i + 1, i + 1, 1, 0, 0, 0, 0})
	}
	for name, c := range map[string]struct {
		l    []Auction
		next int
		want bool
	}{
		"nothing": {nil, 1, true}, "next 0": {nil, 0, false}, "next below 0": {nil, -5, false}, "the last next": {nil, 1 << 40, true}, "next too great": {nil, 1<<40 + 1, false},
		"64": {many[:64], 65, true}, "65": {many, 66, false}, "next not above": {many[:64], 64, false}, "falling": {[]Auction{many[1], many[0]}, 9, false}, "twice": {[]Auction{many[1], many[1]}, 9, false},
		"a number 0": {[]Auction{{0, 1, 1, 0, 0, 0, 0}}, 9, false}, "a deed 0": {[]Auction{{1, 0, 1, 0, 0, 0, 0}}, 9, false}, "a seller 0": {[]Auction{{1, 1, 0, 0, 0, 0, 0}}, 9, false},
		"one deed twice": {[]Auction{{1, 1, 1, 0, 0, 0, 0}, {2, 1, 1, 0, 0, 0, 0}}, 9, false}, "least below 0": {[]Auction{{1, 1, 1, -1, 0, 0, 0}}, 9, false}, "least too great": {[]Auction{{1, 1, 1, most + 1, 0, 0, 0}}, 9, false},
		"a best bid": {[]Auction{{1, 1, 1, 5, 5, 2, 0}}, 9, true}, "a best bid of the account 1": {[]Auction{{1, 1, 2, 5, 5, 1, 0}}, 9, true}, "below least": {[]Auction{{1, 1, 1, 5, 4, 2, 0}}, 9, false}, "of the seller": {[]Auction{{1, 1, 1, 5, 5, 1, 0}}, 9, false}, "of nobody": {[]Auction{{1, 1, 1, 5, 5, 0, 0}}, 9, false},
		"of a bidder below 0": {[]Auction{{1, 1, 1, 5, 5, -2, 0}}, 9, false}, "of 0": {[]Auction{{1, 1, 1, 0, 0, 2, 0}}, 9, true}, "of too much": {[]Auction{{1, 1, 1, 5, most + 1, 2, 0}}, 9, false},
		"of too much, and nobody": {[]Auction{{1, 1, 1, 0, -1, 0, 0}}, 9, false}, "ends below 0": {[]Auction{{1, 1, 1, 0, 0, 0, -1}}, 9, false}, "ends too late": {[]Auction{{1, 1, 1, 0, 0, 0, 1<<42 + 1}}, 9, false}, "ends late": {[]Auction{{1, 1, 1, 0, 0, 0, 1 << 42}}, 9, true},
	} {
		if b, ok := Restore(c.l, c.next); ok != c.want || (b != nil) != ok || ok && (!slices.Equal(b.Rows(), c.l) || b.Next() != c.next) {
			t.Errorf("%s: %t", name, ok)
		}
	}
}

func TestCopyAndMemory(t *testing.T) { // P25.3
	l := []Auction{{1, 1, 1, 5, 0, 0, 9}, {2, 2, 1, 5, 6, 2, 9}}
	b, _ := Restore(l, 3)
	l[0] = Auction{}
	c := b.Copy()
	c.Bid(1, 2, 5)
	c.Close(2)
	c.Open(7, 1, 0, 0)
	clear(b.Rows())
	check(t, b, 3, Auction{1, 1, 1, 5, 0, 0, 9}, Auction{2, 2, 1, 5, 6, 2, 9})
	check(t, c, 4, Auction{1, 1, 1, 5, 5, 2, 9}, Auction{3, 7, 1, 0, 0, 0, 0})
}
