package heap

import (
	"bytes"
	"maps"
	"math"
	"slices"
	"testing"

	"deedhold/api"
	"deedhold/chain"
	"deedhold/disk"
	"deedhold/pager"
	"deedhold/slotted"
)

func newPager(t *testing.T, sectors, size int) (*disk.Disk, *pager.Pager) {
	t.Helper()
	d := disk.New(sectors, size)
	p, e := pager.Open(d)
	if e != api.OK || p.Begin() != api.OK {
		t.Fatalf("pager: %d", e)
	}
	return d, p
}

func some(c, n int) []byte {
	b := make([]byte, n)
	for i := range b {
		b[i] = byte(c + i*i)
	}
	return b
}

// check holds a heap against what it must have.
func check(t *testing.T, p *pager.Pager, h *Heap, m map[int][]byte) {
	t.Helper()
	pages, chains := map[int]int{}, 0
	for place, b := range m {
		got, e := h.Get(place)
		if e != api.OK || !bytes.Equal(got, b) {
			t.Fatalf("Get(%d): %d", place, e)
		}
		pages[place/64] = 1
		if n := len(b); n > (p.Size()-8)/2 {
			chains += (n + p.Size() - 6) / (p.Size() - 5)
		}
	}
	if got := h.Pages(); !slices.Equal(got, slices.Sorted(maps.Keys(pages))) || p.Used() != len(got)+chains {
		t.Fatalf("Pages %v, of %v; %d are used, %d by chains", got, pages, p.Used(), chains)
	}
}

// where is the page that a record must be put into; -1: a new one.
func where(t *testing.T, p *pager.Pager, h *Heap, n int) int {
	t.Helper()
	need := n + 1
	if n > (p.Size()-8)/2 {
		need = 3
	}
	for _, page := range h.Pages() {
		b, _ := p.Read(page)
		if s, ok := slotted.Load(b); !ok {
			t.Fatal("no slotted page")
		} else if s.Room() >= need {
			return page
		}
	}
	return -1
}

func TestModel(t *testing.T) { // P12.1, P12.2, P12.3
	for _, size := range []int{64, 65, 128, 512} {
		_, p := newPager(t, 2000, size)
		h, m := New(p), map[int][]byte{}
		seed := uint32(size)
		for i := range 1200 {
			seed = seed*1664525 + 1013904223
			b := some(i, 1+int(seed>>8)%(size/2))
			if seed>>28 == 0 {
				b = some(i, 1+int(seed>>8)%2000)
			}
			places := slices.Sorted(maps.Keys(m))
			place := int(seed>>16) % 3000
			if len(places) > 0 && seed>>26%4 > 0 {
				place = places[int(seed>>10)%len(places)]
			}
			_, ok := m[place]
			var e, want api.Errno
			if !ok {
				want = api.ErrNone
			}
			switch r := seed >> 24 % 8; {
			case r < 4 || len(m) < 10:
				page := where(t, p, h, len(b))
				place, e = h.Put(b)
				if _, twice := m[place]; twice || page >= 0 && place/64 != page {
					t.Fatalf("Put: %d, not in the page %d", place, page)
				}
				m[place], want = b, api.OK
			case r < 6:
				var to int
				if to, e = h.Set(place, b); ok {
					delete(m, place)
					m[to] = b
				} else if to != 0 {
					t.Fatal("a place beside an error")
				}
			default:
				e = h.Del(place)
				delete(m, place)
			}
			if e != want {
				t.Fatalf("place %d: %d, want %d", place, e, want)
			}
			if i%20 == 0 {
				check(t, p, h, m)
				o, e := Open(p, maps.Keys(m))
				if e != api.OK {
					t.Fatalf("Open: %d", e)
				}
				check(t, p, o, m)
			}
		}
		for place := range m {
			h.Del(place)
		}
		if p.Used() != 0 || len(h.Pages()) != 0 {
			t.Error("a page without records is kept")
		}
	}
}

func TestLayout(t *testing.T) { // P12.1: short and long ones
	_, p := newPager(t, 100, 64)
	h := New(p)
	for n, long := range map[int]bool{1: false, 28: false, 29: true, 1 << 14: true, 0: false, -1: false, math.MaxInt: true, math.MinInt: false} {
		if h.Long(n) != long {
			t.Errorf("Long(%d): %t", n, !long)
		}
	}
	_, q := newPager(t, 100, 65)
	if New(q).Long(28) || !New(q).Long(29) {
		t.Error("rounded down")
	}
	a, _ := h.Put(some(1, 28))
	b, _ := h.Put(some(2, 29)) // the chain's page is 1; its slot has four bytes and three
	if a != 0 || b != 1 || !slices.Equal(h.Pages(), []int{0}) || p.Used() != 2 {
		t.Errorf("places %d and %d", a, b)
	}
	want := slices.Concat([]byte{2, 29, 0, 3, 0, 0}, some(1, 28), []byte{1, 1, 0}, make([]byte, 27))
	if got, _ := p.Read(0); !bytes.Equal(got, want) {
		t.Errorf("%x", got)
	}
	c, _ := h.Put(some(3, 28))
	d, _ := h.Put(some(4, 20))
	if c != 2*64 || d != 2 {
		t.Errorf("places %d and %d", c, d)
	}
}

func TestSetInOneSlot(t *testing.T) { // P12.2
	_, p := newPager(t, 100, 64)
	h := New(p)
	h.Put(some(1, 5))
	h.Put(some(2, 5))
	if to, e := h.Set(0, some(3, 6)); to != 0 || e != api.OK {
		t.Errorf("Set: %d, %d", to, e)
	}
	if to, e := h.Set(1, some(3, 28)); to != 1 || e != api.OK {
		t.Errorf("Set: %d, %d", to, e)
	}
	if to, e := h.Set(0, some(3, 28)); to != 0 || e != api.OK {
		t.Errorf("Set: %d, %d", to, e)
	}
	if to, e := h.Set(1, some(3, 1000)); to>>6 != 1 && to>>6 != 0 || e != api.OK {
		t.Errorf("Set: %d, %d", to, e)
	}
}

func TestRefused(t *testing.T) { // P12.2
	d, p := newPager(t, 20, 64)
	h := New(p)
	place, _ := h.Put(some(1, 9))
	for _, n := range []int{0, 1<<14 + 1} {
		if at, e := h.Put(make([]byte, n)); at != 0 || e != api.ErrRange {
			t.Errorf("Put of %d: %d", n, e)
		}
		if at, e := h.Set(999, make([]byte, n)); at != 0 || e != api.ErrRange {
			t.Errorf("Set of %d: %d", n, e)
		}
	}
	for _, at := range []int{-1, -64, 1, 63, 64, math.MinInt, math.MaxInt} {
		b, e := h.Get(at)
		to, f := h.Set(at, some(1, 1))
		if b != nil || to != 0 || e != api.ErrNone || f != api.ErrNone || h.Del(at) != api.ErrNone {
			t.Errorf("place %d: %d, %d", at, e, f)
		}
	}
	p.Commit()
	if at, e := h.Put(some(1, 1)); at != 0 || e != api.ErrState {
		t.Errorf("Put: %d", e)
	}
	if at, e := h.Put(some(1, 100)); at != 0 || e != api.ErrState || h.Del(place) != api.ErrState {
		t.Errorf("Put, or Del: %d", e)
	}
	if b, e := h.Get(place); e != api.OK || !bytes.Equal(b, some(1, 9)) {
		t.Errorf("Get: %d", e)
	}
	p.Begin()
	c := h.Copy()
	if at, e := h.Put(some(1, 2000)); at != 0 || e != api.ErrFull {
		t.Errorf("Put: %d", e)
	}
	p.Abort()
	p.Begin()
	d.Arm(0)
	if _, e := c.Put(some(1, 1)); e != api.ErrDown {
		t.Errorf("Put: %d", e)
	}
	_, e := c.Get(place)
	_, f := Open(p, slices.Values([]int{0}))
	if e != api.ErrDown || f != api.ErrDown {
		t.Errorf("down: %d, %d", e, f)
	}
}

func TestOpen(t *testing.T) { // P12.1
	_, p := newPager(t, 40, 64)
	if h, e := Open(p, nil); e != api.OK || len(h.Pages()) != 0 {
		t.Errorf("no places: %d", e)
	}
	h := New(p)
	a, _ := h.Put(some(1, 9))
	b, _ := h.Put(some(1, 90))
	none, _ := p.Alloc()
	p.Write(none, bytes.Repeat([]byte{9}, 64))
	for name, c := range map[string]struct {
		places []int
		want   api.Errno
	}{
		"right":                        {[]int{a, b, a}, api.OK},
		"one of two":                   {[]int{b}, api.OK},
		"a page that is not used":      {[]int{a, 30 * 64}, api.ErrNone},
		"a place below 0":              {[]int{-1}, api.ErrNone},
		"no slotted page":              {[]int{none * 64}, api.ErrBad},
		"a slot that is not there":     {[]int{a, 2}, api.ErrBad},
		"bad, and then the pager's":    {[]int{2, none * 64, 30 * 64}, api.ErrNone},
		"the pager's, and then bad":    {[]int{30 * 64, 2}, api.ErrNone},
		"a chain's page":               {[]int{1 * 64}, api.ErrBad},
		"a slot of a slotted page, 63": {[]int{63}, api.ErrBad},
	} {
		h, e := Open(p, slices.Values(c.places))
		if e != c.want || (h == nil) != (e != api.OK) {
			t.Errorf("%s: %d", name, e)
		}
	}
}

func TestBad(t *testing.T) { // P12.2
	_, p := newPager(t, 40, 64)
	h := New(p)
	h.Put(some(1, 90))
	for name, in := range map[string][]byte{
		"a short one of nothing": {0}, "another kind": {2, 1, 0}, "a long one cut": {1, 1}, "a long one and more": {1, 1, 0, 0},
		"a chain that is not there": {1, 30, 0}, "a chain that is none": {1, 2, 0}, "a short one that is long": append([]byte{0}, some(1, 29)...), "a chain far off": {1, 255, 255},
	} {
		s := slotted.New(64)
		s.Put(in)
		used := p.Used()
		for _, page := range h.Pages() {
			p.Write(page, s.Bytes())
		}
		place := h.Pages()[0] * 64
		b, e := h.Get(place)
		_, f := h.Set(place, some(1, 1))
		if b != nil || e != api.ErrBad || f != api.ErrBad || h.Del(place) != api.ErrBad || p.Used() != used {
			t.Errorf("%s: %d, %d", name, e, f)
		}
		if _, e := Open(p, slices.Values([]int{place})); e != api.ErrBad {
			t.Errorf("%s: Open %d", name, e)
		}
	}
	p.Write(h.Pages()[0], make([]byte, 64))
	if _, e := h.Get(h.Pages()[0] * 64); e != api.ErrNone {
		t.Errorf("a page of no slots: %d", e)
	}
	p.Write(h.Pages()[0], bytes.Repeat([]byte{255}, 64))
	if _, e := h.Get(h.Pages()[0] * 64); e != api.ErrBad {
		t.Errorf("no slotted page: %d", e)
	}
}

func TestCopyAndMemory(t *testing.T) { // P12.1, P12.3
	_, p := newPager(t, 40, 64)
	h := New(p)
	b := some(1, 20)
	place, _ := h.Put(b)
	clear(b)
	got, _ := h.Get(place)
	clear(got[:cap(got)])
	if got, _ = h.Get(place); !bytes.Equal(got, some(1, 20)) {
		t.Error("what is handed in is kept, or what is told is no new memory")
	}
	c := h.Copy()
	h.Put(some(2, 28))
	h.Put(some(2, 28))
	if len(c.Pages()) != 1 || len(h.Pages()) != 2 {
		t.Error("a copy is the same object")
	}
	clear(h.Pages())
	if !slices.Equal(h.Pages(), []int{0, 1}) {
		t.Error("Pages tells its own memory")
	}
}

func TestLongest(t *testing.T) { // P12.2
	d, p := newPager(t, 1000, 64)
	h := New(p)
	b := some(3, 1<<14)
	place, e := h.Put(b)
	if got, f := h.Get(place); e != api.OK || f != api.OK || !bytes.Equal(got, b) {
		t.Fatalf("Put %d, Get %d", e, f)
	}
	if to, e := h.Set(place, some(4, 1<<14)); to != place || e != api.OK {
		t.Errorf("Set: %d, %d", to, e)
	}
	p.Commit()
	p.Begin()
	d.Arm(0)
	if at, e := h.Put(some(1, 1)); at != 0 || e != api.ErrDown {
		t.Errorf("Put: %d", e)
	}
	if b, e := h.Get(place); b != nil || e != api.ErrDown {
		t.Errorf("Get: %d", e)
	}
}

func TestChainOfAShortRecord(t *testing.T) { // P12.2: what is short does not lie in a chain
	_, p := newPager(t, 40, 64)
	h := New(p)
	place, _ := h.Put(some(1, 28))
	for n, want := range map[int]api.Errno{28: api.ErrBad, 29: api.OK, 1: api.ErrBad} {
		first, _ := chain.Put(p, some(1, n))
		s := slotted.New(64)
		s.Put([]byte{1, byte(first), byte(first >> 8)})
		p.Write(place/64, s.Bytes())
		if _, e := h.Get(place); e != want {
			t.Errorf("%d bytes: %d", n, e)
		}
	}
	s := slotted.New(64)
	s.Put([]byte{0, 7})
	p.Write(place/64, s.Bytes())
	if b, e := h.Get(place); e != api.OK || !bytes.Equal(b, []byte{7}) {
		t.Errorf("one byte: %x, %d", b, e)
	}
}

func TestFarPlaces(t *testing.T) { // P12.1: chains whose pages need both bytes
	_, p := newPager(t, 1000, 256)
	for range 600 {
		p.Alloc()
	}
	h := New(p)
	place, e := h.Put(some(1, 900))
	if b, f := h.Get(place); e != api.OK || f != api.OK || !bytes.Equal(b, some(1, 900)) {
		t.Errorf("Put %d, Get %d", e, f)
	}
	if h.Del(place) != api.OK || p.Used() != 600 {
		t.Error("Del")
	}
}
