package stall

import (
	"math"
	"slices"
	"testing"

	"deedhold/api"
)

const most = api.MaxGold

func is(t *testing.T, what string, e, want api.Errno) {
	t.Helper()
	if e != want {
		t.Errorf("%s: %d, want %d", what, e, want)
	}
}

func sameRow(a, b Row) bool {
	return a.House == b.House && a.Till == b.Till && slices.Equal(a.Goods, b.Goods)
}

func check(t *testing.T, s *Stalls, want ...Row) {
	t.Helper()
	total := 0
	for _, r := range want {
		total += r.Till
		till, e := s.Till(r.House)
		if till != r.Till || e != api.OK || !s.Has(r.House) || !slices.Equal(s.Goods(r.House), r.Goods) {
			t.Errorf("Till(%d): %d, %d; Goods %v", r.House, till, e, s.Goods(r.House))
		}
		for _, g := range r.Goods {
			if house, price, e := s.Price(g.Thing); house != r.House || price != g.Price || e != api.OK {
				t.Errorf("Price(%d): %d, %d, %d", g.Thing, house, price, e)
			}
		}
	}
	if !slices.EqualFunc(s.Rows(), want, sameRow) || s.Total() != total {
		t.Errorf("Rows %v, Total %d; want %v, %d", s.Rows(), s.Total(), want, total)
	}
	if r, ok := Restore(want); !ok || !slices.EqualFunc(r.Rows(), want, sameRow) || r.Total() != total {
		t.Error("Restore")
	}
}

func TestPutAndTake(t *testing.T) { // P23.1
	s := New()
	check(t, s)
	is(t, "Open", s.Open(7), api.OK)
	is(t, "Open", s.Open(7), api.ErrTwice)
	is(t, "Open", s.Open(3), api.OK)
	is(t, "Open", s.Open(0), api.ErrForm)
	is(t, "Open", s.Open(math.MinInt), api.ErrForm)
	is(t, "Put", s.Put(7, 5, 50), api.OK)
	is(t, "Put", s.Put(7, 2, most), api.OK)
	is(t, "Put", s.Put(3, 9, 1), api.OK)
	for name, c := range map[string]struct {
		house, thing, price int
		e                   api.Errno
	}{
		"no stall": {4, 0, 0, api.ErrNone}, "no stall, below 0": {-1, 8, 8, api.ErrNone}, "a thing 0": {7, 0, 0, api.ErrForm}, "a thing below 0": {7, math.MinInt, 5, api.ErrForm},
		"a price 0": {7, 5, 0, api.ErrRange}, "below 0": {7, 8, -1, api.ErrRange}, "too great": {7, 8, most + 1, api.ErrRange}, "a good": {7, 5, 5, api.ErrTwice}, "a good of another one": {7, 9, 5, api.ErrTwice},
	} {
		is(t, name, s.Put(c.house, c.thing, c.price), c.e)
	}
	check(t, s, Row{3, 0, []Good{{9, 1}}}, Row{7, 0, []Good{{2, most}, {5, 50}}})
	for _, thing := range []int{0, 1, -1, math.MaxInt} {
		house, price, e := s.Price(thing)
		is(t, "Price", e, api.ErrNone)
		is(t, "Take", s.Take(thing), api.ErrNone)
		if house != 0 || price != 0 {
			t.Error("a price beside an error")
		}
		house, price, e = s.Sell(thing)
		is(t, "Sell", e, api.ErrNone)
		if house != 0 || price != 0 {
			t.Error("a price beside an error")
		}
	}
	is(t, "Take", s.Take(5), api.OK)
	is(t, "Take", s.Take(5), api.ErrNone)
	is(t, "Put", s.Put(3, 5, 2), api.OK)
	check(t, s, Row{3, 0, []Good{{5, 2}, {9, 1}}}, Row{7, 0, []Good{{2, most}}})
	if s.Has(4) || len(s.Goods(4)) != 0 {
		t.Error("a house without")
	}
}

func TestMany(t *testing.T) { // P23.1
	s := New()
	s.Open(1)
	s.Open(2)
	for i := range 16 {
		is(t, "Put", s.Put(1, i+1, 5), api.OK)
	}
	is(t, "Put", s.Put(1, 17, 5), api.ErrMany)
	is(t, "Put", s.Put(1, 16, 5), api.ErrTwice)
	is(t, "Put", s.Put(2, 17, 5), api.OK)
	s.Take(3)
	is(t, "Put", s.Put(1, 18, 5), api.OK)
}

func TestSell(t *testing.T) { // P23.2
	s := New()
	s.Open(7)
	s.Open(8)
	s.Put(7, 1, 50)
	if house, price, e := s.Sell(1); house != 7 || price != 50 || e != api.OK {
		t.Errorf("Sell: %d, %d, %d", house, price, e)
	}
	check(t, s, Row{7, 50, nil}, Row{8, 0, nil})
	s.Put(7, 1, most-49)
	s.Put(7, 2, most-50)
	house, price, e := s.Sell(1)
	is(t, "Sell", e, api.ErrOverflow)
	if house != 0 || price != 0 {
		t.Error("a price beside an error")
	}
	check(t, s, Row{7, 50, []Good{{1, most - 49}, {2, most - 50}}}, Row{8, 0, nil})
	_, _, e = s.Sell(2)
	is(t, "Sell", e, api.OK)
	s.Put(8, 3, most)
	s.Sell(3)
	check(t, s, Row{7, most, []Good{{1, most - 49}}}, Row{8, most, nil})
	if n, e := s.Collect(7); n != most || e != api.OK {
		t.Errorf("Collect: %d, %d", n, e)
	}
	if n, e := s.Collect(7); n != 0 || e != api.OK {
		t.Errorf("Collect: %d, %d", n, e)
	}
	for _, house := range []int{0, 9, -1} {
		n, e := s.Till(house)
		m, f := s.Collect(house)
		r, g := s.Close(house)
		if n != 0 || m != 0 || e != api.ErrNone || f != api.ErrNone || g != api.ErrNone || !sameRow(r, Row{}) {
			t.Errorf("the house %d", house)
		}
	}
	if r, e := s.Close(7); e != api.OK || !sameRow(r, Row{7, 0, []Good{{1, most - 49}}}) {
		t.Errorf("Close: %v, %d", r, e)
	}
	check(t, s, Row{8, most, nil})
	if r, e := s.Close(8); e != api.OK || r.Till != most || s.Total() != 0 {
		t.Errorf("Close: %v, %d", r, e)
	}
	is(t, "Open", s.Open(7), api.OK)
	is(t, "Put", s.Put(7, 1, 5), api.OK)
}

func TestRestore(t *testing.T) { // P23.3
	goods := func(n int) []Good {
		var l []Good
		for i := range n {
			l = append(l, Good{i + 1, 1})
		}
		return l
	}
	for name, c := range map[string]struct {
		l    []Row
		want bool
	}{
		"nothing": {nil, true}, "the least house": {[]Row{{1, 0, goods(1)}}, true}, "some": {[]Row{{2, most, goods(16)}, {3, 0, []Good{{17, most}}}}, true}, "falling": {[]Row{{3, 0, nil}, {2, 0, nil}}, false}, "twice": {[]Row{{3, 0, nil}, {3, 0, nil}}, false},
		"a house 0": {[]Row{{0, 0, nil}}, false}, "a till below 0": {[]Row{{1, -1, nil}}, false}, "a till too great": {[]Row{{1, most + 1, nil}}, false}, "too many goods": {[]Row{{1, 0, goods(17)}}, false},
		"goods that fall": {[]Row{{1, 0, []Good{{2, 1}, {1, 1}}}}, false}, "a good twice": {[]Row{{1, 0, []Good{{2, 1}, {2, 1}}}}, false}, "a good of two": {[]Row{{1, 0, []Good{{2, 1}}}, {2, 0, []Good{{2, 1}}}}, false},
		"a thing 0": {[]Row{{1, 0, []Good{{0, 1}}}}, false}, "a price 0": {[]Row{{1, 0, []Good{{1, 0}}}}, false}, "a price too great": {[]Row{{1, 0, []Good{{1, most + 1}}}}, false},
	} {
		if s, ok := Restore(c.l); ok != c.want || (s != nil) != ok || ok && !slices.EqualFunc(s.Rows(), c.l, sameRow) {
			t.Errorf("%s: %t", name, ok)
		}
	}
}

func TestTotal(t *testing.T) { // P23.2: never more than 2^62
	s := New()
	s.Open(1)
	s.Put(1, 1, 5)
	s.Put(1, 2, 6)
	s.total = 1<<62 - 5 // as if there were 2^22 other stalls
	if _, _, e := s.Sell(2); e != api.ErrOverflow || s.Total() != 1<<62-5 {
		t.Errorf("Sell: %d", e)
	}
	if _, _, e := s.Sell(1); e != api.OK || s.Total() != 1<<62 {
		t.Errorf("Sell: %d", e)
	}
	if s.restore(Row{2, 1, nil}) {
		t.Error("Restore of too much")
	}
}

func TestCopyAndMemory(t *testing.T) { // P23.3
	l := []Row{{2, 5, []Good{{1, 10}, {2, 20}}}}
	s, _ := Restore(l)
	l[0].Goods[0].Price = 99
	c := s.Copy()
	c.Sell(1)
	c.Open(9)
	c.Put(9, 7, 1)
	rows := s.Rows()
	clear(rows[0].Goods[:cap(rows[0].Goods)])
	clear(s.Goods(2))
	check(t, s, Row{2, 5, []Good{{1, 10}, {2, 20}}})
	check(t, c, Row{2, 15, []Good{{2, 20}}}, Row{9, 0, []Good{{7, 1}}})
}
