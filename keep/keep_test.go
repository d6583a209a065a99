package keep

import (
	"math"
	"slices"
	"strings"
	"testing"

	"deedhold/access"
	"deedhold/api"
	"deedhold/bid"
	"deedhold/btree"
	"deedhold/chest"
	"deedhold/deed"
	"deedhold/disk"
	"deedhold/estate"
	"deedhold/folk"
	"deedhold/pager"
	"deedhold/rect"
	"deedhold/rent"
	"deedhold/stall"
	"deedhold/table"
	"deedhold/thing"
)

var empty = estate.Parts{NextDeed: 1, NextThing: 1, NextBid: 1}

func newPager(t *testing.T, d *disk.Disk) *pager.Pager {
	t.Helper()
	p, e := pager.Open(d)
	if e != api.OK {
		t.Fatalf("pager: %d", e)
	}
	return p
}

func newKeep(t *testing.T, sectors, size int) (*disk.Disk, *pager.Pager, *Keep) {
	t.Helper()
	d := disk.New(sectors, size)
	p := newPager(t, d)
	p.Begin()
	k, e := Create(p)
	if e != api.OK {
		t.Fatalf("Create: %d", e)
	}
	return d, p, k
}

func keeps(t *testing.T, k *Keep, want estate.Parts) {
	t.Helper()
	x, e := k.Load()
	if e != api.OK || !x.Equal(want) {
		t.Fatalf("Load: %d, %+v; want %+v", e, x, want)
	}
	rows := 1 + len(want.Folk) + len(want.Deeds) + len(want.Things) + len(want.Chests) + len(want.Stalls) + len(want.Auctions)
	if k.Rows() != rows {
		t.Fatalf("Rows %d, want %d", k.Rows(), rows)
	}
}

// some parts: those of a house in which there is something of each kind.
func some() estate.Parts {
	return estate.Parts{
		Now:       7,
		Folk:      []folk.Row{{Name: "ann", Gold: 5}, {Name: "bob", Gold: api.MaxGold}},
		Held:      9,
		Plots:     []estate.Plot{{ID: 2, Rect: rect.Rect{X: 1, Y: 2, W: 3, H: 4}}, {ID: 5, Rect: rect.Rect{X: 200, Y: 9, W: 1, H: 1}}},
		Houses:    []access.House{{Owner: 1, Co: []int{2}, Friends: []int{3, 4}}, {Owner: 2, Bans: []int{1}}},
		Deeds:     []deed.Deed{{ID: 2, Plot: 2, Holder: 1}, {ID: 5, Plot: 5, Holder: 2}},
		NextDeed:  6,
		Things:    []thing.Thing{{ID: 3, Name: "sword", Owner: 1, Place: thing.Place{Kind: 2, House: 2, Slot: 1}}, {ID: 4, Name: "x", Owner: 2, Place: thing.Place{Kind: 4, House: 5}}},
		NextThing: 1 << 40,
		Chests:    []chest.Row{{House: 2, Needs: []int{2, 3, 4}}},
		Stalls:    []stall.Row{{House: 2, Till: 9}, {House: 5, Till: 0, Goods: []stall.Good{{Thing: 4, Price: 1}, {Thing: 9, Price: 1 << 40}}}},
		Rents:     []rent.Row{{House: 2, Rate: 12, Due: 107}, {House: 5, Rate: 1, Due: 1 << 42}},
		Auctions:  []bid.Auction{{ID: 8, Deed: 5, Seller: 2, Least: 1, Best: 2, Bidder: 1, Ends: 99}},
		NextBid:   9,
	}
}

func TestCreate(t *testing.T) { // P28.1
	d := disk.New(64, 128)
	p := newPager(t, d)
	if k, e := Open(p); k != nil || e != api.ErrNone {
		t.Errorf("Open: %d", e)
	}
	if k, e := Create(p); k != nil || e != api.ErrState {
		t.Errorf("Create: %d", e)
	}
	p.Begin()
	k, e := Create(p)
	if e != api.OK {
		t.Fatalf("Create: %d", e)
	}
	keeps(t, k, empty)
	if k, e := Create(p); k != nil || e != api.ErrForm {
		t.Errorf("Create again: %d", e)
	}
	o, e := Open(p)
	if e != api.OK {
		t.Fatalf("Open: %d", e)
	}
	keeps(t, o, empty)
	p.Commit()
	if k, e := Create(p); k != nil || e != api.ErrForm {
		t.Errorf("Create without a change: %d", e)
	}
	for sectors := 8; sectors < 20; sectors++ {
		p = newPager(t, disk.New(sectors, 64))
		p.Begin()
		k, e := Create(p)
		if (k == nil) != (e == api.ErrFull) || e != api.OK && e != api.ErrFull || e != api.OK && p.Used() != 0 {
			t.Errorf("Create on %d sectors: %d", sectors, e)
		}
	}
	p = newPager(t, disk.New(64, 128))
	p.Begin()
	p.Alloc()
	if k, e := Create(p); k != nil || e != api.ErrForm {
		t.Errorf("Create where a page is used: %d", e)
	}
	d = disk.New(64, 128)
	p = newPager(t, d)
	p.Begin()
	d.Arm(3)
	if k, e := Create(p); k != nil || e != api.ErrDown {
		t.Errorf("Create: %d", e)
	}
	if k, e := Open(p); k != nil || e != api.ErrDown {
		t.Errorf("Open: %d", e)
	}
}

func TestBytes(t *testing.T) { // the values' bytes, as the document has them
	x := some()
	for name, c := range map[string]struct {
		b    []byte
		want string
	}{
		"an account": {folkCoder().Bytes(folk.Row{Name: "ann", Gold: 5}), "\x06ann\x0a"},
		"a house":    {houseCoder().Bytes(House{x.Plots[0].Rect, x.Houses[0], 12, 50}), "\x02\x04\x06\x08\x02\x02\x04\x04\x06\x08\x00\x18\x64"},
		"a thing":    {thingCoder().Bytes(x.Things[0]), "\x06\x0asword\x02\x04\x04\x02"},
		"chests":     {chestCoder().Bytes(x.Chests[0]), "\x04\x06\x04\x06\x08"},
		"a stall":    {stallCoder().Bytes(stall.Row{House: 5, Till: 1, Goods: []stall.Good{{Thing: 4, Price: 1}, {Thing: 9, Price: 3}}}), "\x0a\x02\x04\x08\x02\x12\x06"},
		"an auction": {bidCoder().Bytes(x.Auctions[0]), "\x10\x0a\x04\x02\x04\x02\xc6\x01"},
		"a Meta":     {metaCoder().Bytes(Meta{1, 2, 3, 4, 5, []int{6, 7}}), "\x02\x04\x06\x08\x0a\x04\x0c\x0e"},
	} {
		if string(c.b) != c.want {
			t.Errorf("%s: %x, want %x", name, c.b, c.want)
		}
	}
	b := stallCoder().Bytes(x.Stalls[1])
	for n := range b {
		if r, ok := stallCoder().Parse(b[:n]); ok || r.House != 0 {
			t.Errorf("%d bytes of a stall", n)
		}
	}
	if _, ok := stallCoder().Parse(append(b, 0)); ok {
		t.Error("a stall and a byte more")
	}
}

func TestSave(t *testing.T) { // P28.1, P28.2, P28.3
	d, p, k := newKeep(t, 200, 128)
	x := some()
	if e := k.Save(x); e != api.OK {
		t.Fatalf("Save: %d", e)
	}
	keeps(t, k, x)
	p.Commit()
	again := some()
	again.Houses[0].Co, again.Chests[0].Needs[0] = []int{9}, 4
	if !x.Equal(some()) {
		t.Error("what is handed in is changed")
	}
	x.Houses[0].Co[0], x.Folk[0].Name = 99, "zoe"
	o, e := Open(newPager(t, d))
	if e != api.OK {
		t.Fatalf("Open: %d", e)
	}
	keeps(t, o, some())
	y, _ := o.Load()
	y.Houses[0].Co[0] = 77
	keeps(t, o, some())
	p.Begin()
	n := d.Commands()
	if e := k.Save(some()); e != api.OK || d.Commands() != n {
		t.Errorf("Save of the same: %d, %d commands", e, d.Commands()-n)
	}
	c := k.Copy()
	k.Save(again)
	keeps(t, k, again)
	p.Abort()
	keeps(t, c, some())
	p.Begin()
	c.Save(empty)
	keeps(t, c, empty)
	p.Commit()
	o, _ = Open(newPager(t, d))
	keeps(t, o, empty)
}

func TestOnlyChangedRows(t *testing.T) { // P28.2
	d, p, k := newKeep(t, 2000, 256)
	x := some()
	for i := range 500 {
		x.Things = append(x.Things, thing.Thing{ID: 10 + i, Name: "a", Owner: 1, Place: thing.Place{Kind: 1, House: 1}})
	}
	k.Save(x)
	p.Commit()
	p.Begin()
	n := d.Commands()
	x.Things[250].Name = "b"
	k.Save(x)
	if got := d.Commands() - n; got > 4 {
		t.Errorf("%d pages are written for one row", got)
	}
	keeps(t, k, x)
	x.Things = slices.Delete(x.Things, 100, 400)
	k.Save(x)
	keeps(t, k, x)
}

func TestFit(t *testing.T) { // P28.1, P28.2
	if !Fit(some()) || !Fit(empty) || !Fit(estate.Parts{}) {
		t.Error("Fit")
	}
	d, _, k := newKeep(t, 200, 128)
	k.Save(some())
	for name, change := range map[string]func(x *estate.Parts){
		"a house less":       func(x *estate.Parts) { x.Houses = x.Houses[:1] },
		"a plot less":        func(x *estate.Parts) { x.Plots = x.Plots[:1] },
		"a rent less":        func(x *estate.Parts) { x.Rents = x.Rents[:1] },
		"a deed less":        func(x *estate.Parts) { x.Deeds = x.Deeds[:1] },
		"another plot":       func(x *estate.Parts) { x.Plots[1].ID = 6 },
		"another rent":       func(x *estate.Parts) { x.Rents[0].House = 1 },
		"a deed's plot":      func(x *estate.Parts) { x.Deeds[1].Plot = 4 },
		"a deed's number":    func(x *estate.Parts) { x.Deeds[1].ID = 4 },
		"another holder":     func(x *estate.Parts) { x.Deeds[1].Holder = 1 },
		"another owner":      func(x *estate.Parts) { x.Houses[1].Owner = 1 },
		"plots out of order": func(x *estate.Parts) { slices.Reverse(x.Plots) },
	} {
		x := some()
		change(&x)
		n := d.Commands()
		if Fit(x) || k.Save(x) != api.ErrForm || d.Commands() != n {
			t.Errorf("%s: Fit", name)
		}
	}
	for name, change := range map[string]func(x *estate.Parts){
		"a thing 0":         func(x *estate.Parts) { x.Now, x.Things[0].ID = 99, 0 },
		"a thing too great": func(x *estate.Parts) { x.Now, x.Things[1].ID = 99, 1<<40+1 },
		"a stall below 0":   func(x *estate.Parts) { x.Now, x.Stalls[0].House = 99, math.MinInt },
		"things that fall":  func(x *estate.Parts) { slices.Reverse(x.Things) },
	} {
		x := some()
		change(&x)
		if k.Save(x) != api.ErrForm {
			t.Errorf("%s: Save", name)
		}
	}
	keeps(t, k, some())
	x := some()
	x.Folk[0].Name = strings.Repeat("a", 1<<14)
	if e := k.Save(x); e != api.ErrRange {
		t.Errorf("a row that is too long: %d", e)
	}
}

func TestErrors(t *testing.T) { // P28.2
	d, p, k := newKeep(t, 40, 128)
	p.Commit()
	if e := k.Save(some()); e != api.ErrState {
		t.Errorf("Save without a change: %d", e)
	}
	k, _ = Open(p)
	c := k.Copy()
	p.Begin()
	x := some()
	for i := range 200 {
		x.Things = append(x.Things, thing.Thing{ID: 10 + i, Name: "a", Owner: 1, Place: thing.Place{Kind: 1, House: 1}})
	}
	if e := k.Save(x); e != api.ErrFull {
		t.Errorf("Save without room: %d", e)
	}
	p.Abort()
	keeps(t, c, empty)
	p.Begin()
	d.Arm(2)
	if e := c.Save(some()); e != api.ErrDown {
		t.Errorf("Save: %d", e)
	}
	if x, e := c.Load(); e != api.ErrDown || !x.Equal(estate.Parts{}) {
		t.Errorf("Load: %d", e)
	}
}

func TestNoKeep(t *testing.T) { // P28.1
	for name, change := range map[string]func(p *pager.Pager, k *Keep){
		"no table at 0":      func(p *pager.Pager, k *Keep) { p.Write(0, make([]byte, 128)) },
		"the page 0 is free": func(p *pager.Pager, k *Keep) { p.Free(0) },
		"no Meta":            func(p *pager.Pager, k *Keep) { k.meta.table.Del(1) },
		"a Meta under 2":     func(p *pager.Pager, k *Keep) { k.meta.table.Put(2, Meta{Roots: k.roots()}); k.meta.table.Del(1) },
		"too few roots":      func(p *pager.Pager, k *Keep) { k.meta.table.Put(1, Meta{Roots: k.roots()[:5]}) },
		"too many roots":     func(p *pager.Pager, k *Keep) { k.meta.table.Put(1, Meta{Roots: append(k.roots(), 1)}) },
		"a root just twice": func(p *pager.Pager, k *Keep) {
			r := k.roots()
			r[4] = r[3]
			k.stalls.table.Del(2)
			k.stalls.table.Del(5)
			k.chests.table.Del(2)
			k.meta.table.Put(1, Meta{Roots: r})
		},
		"a root twice":            func(p *pager.Pager, k *Keep) { k.meta.table.Put(1, Meta{Roots: slices.Repeat(k.roots()[5:], 6)}) },
		"a root that is the Meta": func(p *pager.Pager, k *Keep) { k.meta.table.Put(1, Meta{Roots: append(k.roots()[:5], 0)}) },
		"a root below 0":          func(p *pager.Pager, k *Keep) { k.meta.table.Put(1, Meta{Roots: append(k.roots()[:5], -1)}) },
		"a root of no table": func(p *pager.Pager, k *Keep) {
			i, _ := p.Alloc()
			k.meta.table.Put(1, Meta{Roots: append(k.roots()[:5], i)})
		},
		"a table in another's": func(p *pager.Pager, k *Keep) { r := k.roots(); slices.Reverse(r); k.meta.table.Put(1, Meta{Roots: r}) },
		"an account left out":  func(p *pager.Pager, k *Keep) { k.folk.table.Del(1) },
		"an account behind":    func(p *pager.Pager, k *Keep) { k.folk.table.Put(4, folk.Row{}) },
		"a thing elsewhere":    func(p *pager.Pager, k *Keep) { k.things.table.Put(4, thing.Thing{ID: 5, Name: "a"}) },
		"chests elsewhere":     func(p *pager.Pager, k *Keep) { k.chests.table.Put(3, chest.Row{House: 2}) },
		"a stall elsewhere":    func(p *pager.Pager, k *Keep) { k.stalls.table.Put(3, stall.Row{House: 2}) },
		"an auction elsewhere": func(p *pager.Pager, k *Keep) { k.bids.table.Put(3, bid.Auction{ID: 2}) },
		"a row that is none": func(p *pager.Pager, k *Keep) {
			other, _ := table.Open(p, k.chests.table.Root(), thingCoder())
			if other == nil {
				k.chests.table.Del(2)
				other, _ = table.Open(p, k.chests.table.Root(), thingCoder())
			}
			other.Put(2, thing.Thing{ID: 2, Name: "abc"})
		},
		"no next id": func(p *pager.Pager, k *Keep) { btree.At(p, k.bids.table.Root()).Del(0) },
	} {
		_, p, k := newKeep(t, 200, 128)
		k.Save(some())
		if _, e := Open(p); e != api.OK {
			t.Fatalf("Open: %d", e)
		}
		change(p, k)
		if o, e := Open(p); o != nil || e != api.ErrBad {
			t.Errorf("%s: %d", name, e)
		}
	}
}

func TestCrash(t *testing.T) { // P28.3
	for seed := range 60 {
		c := uint32(seed)
		next := func(n int) int {
			c = c*1664525 + 1013904223
			return int(c>>8) % n
		}
		d, p, k := newKeep(t, 120, 128)
		p.Commit()
		x, was := empty, empty
		epoch := p.Epoch()
		d.Arm(next(60))
		for range 40 {
			p.Begin()
			x = some()
			x.Now, x.NextBid = next(1000), 9+next(9)
			x.Things = x.Things[:next(3)]
			x.Stalls = x.Stalls[:next(3)]
			e := k.Save(x)
			if e == api.OK {
				e = p.Commit()
			}
			if e == api.ErrDown {
				break
			}
			if e != api.OK {
				t.Fatalf("%d", e)
			}
			was, epoch = x, p.Epoch()
		}
		var kept []int
		for _, s := range d.Cached() {
			if next(2) == 0 {
				kept = append(kept, s)
			}
		}
		d.Crash(disk.Loss{Keep: kept, Torn: next(120), Cut: next(130)})
		p = newPager(t, d)
		o, e := Open(p)
		if e != api.OK {
			t.Fatalf("Open: %d", e)
		}
		if p.Epoch() != epoch {
			was = x
		}
		keeps(t, o, was)
	}
}

func TestOfRegistry(t *testing.T) { // P28.2: what a registry tells fits
	s, _ := estate.New(64, nil)
	for _, o := range []estate.Order{{Kind: 1, Text: "ann"}, {Kind: 2, A: 1, B: 900}, {Who: 1, Kind: 4, C: 4, D: 4}, {Who: 1, Kind: 8, Text: "a"}, {Who: 1, Kind: 10, A: 1, B: 2}, {Who: 1, Kind: 11, A: 1, B: 1, C: 1}, {Who: 1, Kind: 13, A: 1}, {Who: 1, Kind: 19, A: 1, C: 9}} {
		if r := s.Do(o); r.E != api.OK {
			t.Fatalf("%v: %d", o, r.E)
		}
	}
	_, _, k := newKeep(t, 100, 128)
	if !Fit(s.Parts()) || k.Save(s.Parts()) != api.OK {
		t.Error("Save")
	}
	keeps(t, k, s.Parts())
}
